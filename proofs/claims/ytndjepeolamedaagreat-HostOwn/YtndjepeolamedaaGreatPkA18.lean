/- Part 19 of the texts on which the proofs of layer 13 rest: contracts of Go functions. -/
import Derived.Test.YtndjepeolamedaaGreatPkA16
import Derived.Test.YtndjepeolamedaaGreatPkA17
namespace Go.Proofs.YtndjepeolamedaaGreat
set_option maxRecDepth 100000
open Go.RowKit
theorem build0D (w : World) : (Instr.buildSlice 22 0 #[]).run Tryz.prog w = .ok (.slice (some ⟨w.heap.size, 0, none⟩) 0 0) (w.alloc (.cells #[] 5)) := by kernel_rfl
theorem own0D (B : Nat) (bs : Nat → Nat) (w : World) (h : B ≤ w.heap.size) : (w.alloc (.cells #[] 5)).ownsRow B 5 1 (.slice (some ⟨w.heap.size, 0, none⟩) 0 0) 0 (CB bs 0) := World.ownsRow_made w #[] 0 h (Nat.zero_le _) rfl
set_option maxHeartbeats 6400000 in
theorem same13_any (st ss nm sn dc lat : Int) (rq on : Bool) (a a' : Option Addr) (n n' cap cap' : Nat) (bs bs' : Nat → Nat) (w : World) (R : Row8 w a n cap bs) (R' : Row8 w a' n' cap' bs') (hX : BA bs n = BA bs' n') :
    Calls Tryz.prog 28 #[.agg #[.int .i64 st, .int .u32 ss, .int .u32 nm, .int .u32 sn, .int .i64 dc, .int .i64 lat, .bool rq, .bool on, .slice a n cap], .agg #[.int .i64 st, .int .u32 ss, .int .u32 nm, .int .u32 sn, .int .i64 dc, .int .i64 lat, .bool rq, .bool on, .slice a' n' cap']] w fun e w' => e = .returned (.bool true) ∧ Below w.heap.size w w' := by
  have b0 : Below w.heap.size w ((w.alloc (.cells #[.int .i64 st, .int .u32 ss, .int .u32 nm, .int .u32 sn, .int .i64 dc, .int .i64 lat, .bool rq, .bool on, .slice a n cap] 57)).alloc (.cells #[.int .i64 st, .int .u32 ss, .int .u32 nm, .int .u32 sn, .int .i64 dc, .int .i64 lat, .bool rq, .bool on, .slice a' n' cap'] 57)) := ((Below.refl _ _).alloc (Nat.le_refl _) _).alloc (by simp) _
  obtain ⟨X, hX1⟩ : ∃ X, BA bs n = X := ⟨_, rfl⟩
  have hX2 : BA bs' n' = X := hX ▸ hX1
  have q1 := conv_any a n cap bs _ (R.below b0)
  have q2 := conv_any a' n' cap' bs' _ (R'.below b0)
  rw [hX1] at q1
  rw [hX2] at q2
  have HB : Hid (_) := b0
  clear R R' hX hX1 hX2 b0
  go_enter Tryz.func28, Tryz.ntmps28
  go_wp2_with fail
  go_ret
  exact ⟨by simp, HB.out⟩
end Go.Proofs.YtndjepeolamedaaGreat
namespace Go.Proofs.YtndjepeolamedaaGreat
set_option maxRecDepth 100000
open Go.RowKit
theorem RB.vald {w w1 w2 w3 : World} {d m g n mx : Nat} {P : Pm} {U : List Nat} {s : Sd} {B : Bk2} {A : Prop} (h : RB w d m g n mx P U s B A) {v : Value} {bs : Nat → Nat} (q1 : Off [d] w w1) (b2 : Below w1.heap.size w1 w2) (ho : w2.ownsRow w1.heap.size 5 1 v P.o (CB bs P.o)) (hy : ∀ i, i < P.o → bs i < 256) (q3 : Off [d] w2 w3)
    (e : w3.heap[d]? = some (.cells (RDC P m mx B.cp B.lv v { s with v := { s.v with sm := true, bs := bs } } B.av) 128 (0, 0))) (hl : s.v.lat = 0) :
    ∃ U' B', Gr U w U' w3 ∧ RB w3 d m g n mx P U' { s with v := { s.v with sm := true, bs := bs } } B' A := by
  have s1 := q1.size
  have s2 := b2.size
  have s3 := q3.size
  have hge : ∀ k, v.ownBlock = some k → w.heap.size ≤ k := fun k hk => Nat.le_trans s1 (Fr.ge (f := (P.o, bs)) ho k hk)
  have hlt : ∀ k, v.ownBlock = some k → k < w3.heap.size := fun k hk => Nat.lt_of_lt_of_le (Fr.lt (f := (P.o, bs)) ho k hk) s3
  have hd := h.dlt
  have Q : Off [d] w w3 := (q1.trans (Off.of_below b2)).trans q3
  have hn : ∀ k, B.col k ≠ 0 → k ∉ [d] := fun k hk hm => by simp at hm; rw [hm, h.kd.1] at hk; exact hk rfl
  have hq : ∀ k x, B.col k = x ∧ k ∈ U → (if k < w.heap.size then B.col k else 4) = x ∧ k ∈ v.ownBlock.toList ++ U := fun k x hk => ⟨by rw [if_pos (h.ltU k hk.2)]; exact hk.1, List.mem_append.2 (.inr hk.2)⟩
  refine ⟨v.ownBlock.toList ++ U, { B with vv := v, M := v.ownBlock.toList, col := fun k => if k < w.heap.size then B.col k else 4 }, ⟨Q.more (by simp [h.kd.2]), fun k hk => ?_⟩, ?_⟩
  · rcases List.mem_append.1 hk with hk | hk
    · exact .inr (hge k (by simpa using hk))
    · exact .inl hk
  · refine ⟨e, h.mem.off Q (hn _ (by rw [h.km.1]; omega)) (hn _ (by rw [h.kg.1]; omega)), fun hA => ?_, .inr ⟨rfl, ⟨own_offk (own_base ho (Nat.zero_le _)) q3 (fun k hk => by have := hge k hk; simp; omega), fun k hk => by simpa using hk⟩, hy⟩, own_offk h.log Q (fun k hk => hn _ (by rw [(h.kl k hk).1]; omega)), own_offk h.app Q (fun k hk => hn _ (by rw [(h.ka k hk).1]; omega)), h.apb, ⟨h.vok.fr, fun _ => hl⟩, h.dcl, ?_, hq _ _ h.kd, hq _ _ h.km, hq _ _ h.kg, hq _ _ h.kc, ?_, fun k hk => hq _ _ (h.kl k hk), fun k hk => hq _ _ (h.ka k hk), h.pok, h.n10, h.mx0, h.mxl, h.nl⟩
    · obtain ⟨c1, c2, c3⟩ := h.cel hA
      exact ⟨c1, c2.off Q (hn _ (by rw [h.kc.1]; omega)), c3⟩
    · intro k hk
      rcases List.mem_append.1 hk with hk | hk
      · exact hlt k (by simpa using hk)
      · exact Nat.lt_of_lt_of_le (h.ltU k hk) Q.size
    · intro k hk
      have := hge k (by simpa using hk)
      exact ⟨by show (if k < w.heap.size then _ else 4) = 4; rw [if_neg (by omega)], List.mem_append.2 (.inl hk)⟩
end Go.Proofs.YtndjepeolamedaaGreat
namespace Go.Proofs.YtndjepeolamedaaGreat
set_option maxRecDepth 100000
open Go.RowKit
theorem RH.vald {w w1 w2 w3 : World} {d : Nat} {P : Pm} {U : List Nat} {s : Sh} {B : Bk3} (h : RH w d P U s B) {v : Value} {bs : Nat → Nat} (q1 : Off [d] w w1) (b2 : Below w1.heap.size w1 w2) (ho : w2.ownsRow w1.heap.size 5 1 v P.i (CB bs P.i)) (hy : ∀ i, i < P.i → bs i < 256) (q3 : Off [d] w2 w3)
    (e : w3.heap[d]? = some (.cells (RHC P B.lv v { s with v := { s.v with sm := true, bs := bs } } B.av) 149 (0, 0))) (hl : s.v.lat = 0) :
    ∃ U' B', Gr U w U' w3 ∧ RH w3 d P U' { s with v := { s.v with sm := true, bs := bs } } B' := by
  have s1 := q1.size
  have s2 := b2.size
  have s3 := q3.size
  have hge : ∀ k, v.ownBlock = some k → w.heap.size ≤ k := fun k hk => Nat.le_trans s1 (Fr.ge (f := (P.i, bs)) ho k hk)
  have hlt : ∀ k, v.ownBlock = some k → k < w3.heap.size := fun k hk => Nat.lt_of_lt_of_le (Fr.lt (f := (P.i, bs)) ho k hk) s3
  have hd := h.dlt
  have Q : Off [d] w w3 := (q1.trans (Off.of_below b2)).trans q3
  have hn : ∀ k, B.col k ≠ 0 → k ∉ [d] := fun k hk hm => by simp at hm; rw [hm, h.kd.1] at hk; exact hk rfl
  have hq : ∀ k x, B.col k = x ∧ k ∈ U → (if k < w.heap.size then B.col k else 4) = x ∧ k ∈ v.ownBlock.toList ++ U := fun k x hk => ⟨by rw [if_pos (h.ltU k hk.2)]; exact hk.1, List.mem_append.2 (.inr hk.2)⟩
  refine ⟨v.ownBlock.toList ++ U, { B with vv := v, M := v.ownBlock.toList, col := fun k => if k < w.heap.size then B.col k else 4 }, ⟨Q.more (by simp [h.kd.2]), fun k hk => ?_⟩, ?_⟩
  · rcases List.mem_append.1 hk with hk | hk
    · exact .inr (hge k (by simpa using hk))
    · exact .inl hk
  · refine ⟨e, .inr ⟨rfl, ⟨own_offk (own_base ho (Nat.zero_le _)) q3 (fun k hk => by have := hge k hk; simp; omega), fun k hk => by simpa using hk⟩, hy⟩, own_offk h.log Q (fun k hk => hn _ (by rw [(h.kl k hk).1]; omega)), own_offk h.app Q (fun k hk => hn _ (by rw [(h.ka k hk).1]; omega)), h.apb, ⟨h.vok.fr, fun _ => hl⟩, h.dcl, ?_, hq _ _ h.kd, ?_, fun k hk => hq _ _ (h.kl k hk), fun k hk => hq _ _ (h.ka k hk), h.pok, h.nl⟩
    · intro k hk
      rcases List.mem_append.1 hk with hk | hk
      · exact hlt k (by simpa using hk)
      · exact Nat.lt_of_lt_of_le (h.ltU k hk) Q.size
    · intro k hk
      have := hge k (by simpa using hk)
      exact ⟨by show (if k < w.heap.size then _ else 4) = 4; rw [if_neg (by omega)], List.mem_append.2 (.inl hk)⟩
set_option maxHeartbeats 3200000 in
theorem hrtakev_any (d : Nat) (P : Pm) (U : List Nat) (s : Sh) (B : Bk3) (a : Option Addr) (cap : Nat) (bs : Nat → Nat) (w : World) (h : RH w d P U s B) (hr : Row8 w a P.i cap bs) (ha : ∀ x, a = some x → x.block ≠ d) :
    Calls Tryz.prog 129 #[.pointer (some ⟨d, 8, none⟩), .slice a P.i cap] w fun e w' => e = .returned (.tuple #[]) ∧ Hid (∃ U' B', Gr U w U' w' ∧ RH w' d P U' { s with v := vtake s.v bs } B') := by
  have c12 : w.cell? ⟨d, 9, none⟩ = some (.bool s.v.run) := cell_of_row w d 9 _ _ _ h.dev
  have c15 : w.cell? ⟨d, 12, none⟩ = some (.int .i64 s.v.lat) := cell_of_row w d 12 _ _ _ h.dev
  have c17 : w.cell? ⟨d, 14, none⟩ = some (.bool s.v.sm) := cell_of_row w d 14 _ _ _ h.dev
  have z17 := h.fz 14
  unfold vtake
  by_cases hk : s.v.run = true ∧ s.v.lat = 0
  · rw [if_pos hk]
    rw [hk.1] at c12
    rw [hk.2] at c15
    obtain ⟨i0, hi, hz0, hz1, hz2⟩ := info_parts info_u8
    have hbd := build0D
    have e1 : (w.setCell ⟨d, 14, none⟩ (.bool true)).heap[d]? = some (.cells (RHC P B.lv B.vv { s with v := { s.v with sm := true } } B.av) 149 (0, 0)) := heap_setCell_same _ _ _ _ _ _ h.dev
    have o1 := Off.setCell d 14 w (.bool true)
    have r1 : Row8 (w.setCell ⟨d, 14, none⟩ (.bool true)) a P.i cap bs := hr.off o1 (fun x hx => by simpa using ha x hx)
    have ho8 := h.pok.i8
    have H : Hid (_) := And.intro h (And.intro hk.2 (And.intro hr.byte (And.intro e1 o1)))
    have H1 : Hid (_) := r1
    clear h hr ha hk e1 o1 r1
    go_enter Tryz.func129, Tryz.ntmps129
    go_upto_region 2 with fail
    generalize w.setCell ⟨d, 14, none⟩ (.bool true) = w1 at *
    have hbelA : Below w1.heap.size w1 (w1.alloc (.cells #[] 5)) := (Below.refl _ _).alloc (Nat.le_refl _) _
    have R0 := H1.out.below hbelA
    have O0 := own0D w1.heap.size bs w1 (Nat.le_refl _)
    have hszA := hbelA.size
    clear H1 c12 c15 c17 z17
    go_wp2_with (at_builtin; refine wpList_append_row8 rfl (.tmp 19) (.tmp 20) 22 rfl w1.heap.size 5 i0 (.int .u8 0) Tryz.underlying22 hi hz0 hz1 hz2 rfl _ 0 _ rfl O0 a P.i cap bs rfl R0 (by unfold maxLen; omega) (by omega) hszA ?_)
    intro v2 w2 hown2 hgrow2
    have hbel2 : Below w1.heap.size w1 w2 := hbelA.grown hgrow2 hszA (fun k hk => (O0.lt k hk).1)
    rw [show CB bs 0 = [] from rfl, List.nil_append] at hown2
    obtain ⟨a2, k2, rfl, R2⟩ := own_row8 (by simpa using hown2) H.out.2.2.1
    have hd1 : d < w1.heap.size := Nat.lt_of_lt_of_le H.out.1.dlt H.out.2.2.2.2.size
    have e2 := (hbel2.block d hd1).trans H.out.2.2.2.1
    have c16 : w2.cell? ⟨d, 13, none⟩ = some B.vv := cell_of_row w2 d 13 _ _ _ e2
    have z16 := frozen_of_row w2 d 13 _ _ e2
    have hown3 : w2.ownsRow w1.heap.size 5 1 (.slice a2 P.i k2) P.i (CB bs P.i) := by simpa using hown2
    have H2 : Hid (_) := And.intro hown3 (And.intro hbel2 e2)
    clear hown2 hown3 hgrow2 hbel2 O0 R0 hbelA R2 hd1 e2 hszA
    go_wp2_with fail
    go_end0
    obtain ⟨hown2, hbel2, e2⟩ := H2.out
    obtain ⟨h, hl, hby, e1, o1⟩ := H.out
    have e3 : (w2.setCell ⟨d, 13, none⟩ (.slice a2 P.i k2)).heap[d]? = some (.cells (RHC P B.lv (.slice a2 P.i k2) { s with v := { s.v with sm := true, bs := bs } } B.av) 149 (0, 0)) := heap_setCell_same _ _ _ _ _ _ e2
    obtain ⟨U', B', g', x'⟩ := h.vald o1 hbel2 hown2 hby (Off.setCell d 13 w2 _) e3 hl
    exact ⟨rfl, U', B', g', x'⟩
  · rw [if_neg hk]
    have H : Hid (_) := h
    cases hrun : s.v.run
    · rw [hrun] at c12
      clear h hr ha hk
      go_enter Tryz.func129, Tryz.ntmps129
      go_wp2_with fail
      go_end0
      exact ⟨rfl, U, B, Gr.refl _ _, H.out⟩
    · rw [hrun] at c12
      have hl : (s.v.lat == 0) = false := by simp; intro e; exact hk ⟨hrun, e⟩
      clear h hr ha hk
      go_enter Tryz.func129, Tryz.ntmps129
      go_wp2_with fail
      go_end0
      exact ⟨rfl, U, B, Gr.refl _ _, H.out⟩
end Go.Proofs.YtndjepeolamedaaGreat
namespace Go.Proofs.YtndjepeolamedaaGreat
set_option maxRecDepth 100000
open Go.RowKit
end Go.Proofs.YtndjepeolamedaaGreat
namespace Go.Proofs.YtndjepeolamedaaGreat
set_option maxRecDepth 100000
open Go.RowKit
set_option maxHeartbeats 3200000 in
theorem hroutv_any (d : Nat) (P : Pm) (U : List Nat) (s : Sh) (B : Bk3) (w : World) (h : RH w d P U s B) :
    Calls Tryz.prog 143 #[.pointer (some ⟨d, 8, none⟩)] w fun e w' => ∃ a cap, e = .returned (.tuple #[.slice a P.i cap, .bool (von s.v)]) ∧ Hid (Fr w' w.heap.size (.slice a P.i cap) (P.i, vout s.v) ∧ Row8 w' a P.i cap (vout s.v) ∧ Below w.heap.size w w') := by
  obtain ⟨i0, hi, hz0, hz1, hz2⟩ := info_parts info_u8
  have c11 : w.cell? ⟨d, 8, none⟩ = some (.int .i64 (P.i : Nat)) := cell_of_row w d 8 _ _ _ h.dev
  have c12 : w.cell? ⟨d, 9, none⟩ = some (.bool s.v.run) := cell_of_row w d 9 _ _ _ h.dev
  have c13 : w.cell? ⟨d, 10, none⟩ = some (.bool s.v.held) := cell_of_row w d 10 _ _ _ h.dev
  have c16 : w.cell? ⟨d, 13, none⟩ = some B.vv := cell_of_row w d 13 _ _ _ h.dev
  have c17 : w.cell? ⟨d, 14, none⟩ = some (.bool s.v.sm) := cell_of_row w d 14 _ _ _ h.dev
  have ho8 := h.pok.i8
  have hdl := h.dlt
  unfold vout
  by_cases hon : von s.v = true
  · rw [if_pos hon, hon]
    simp only [von, Bool.and_eq_true, Bool.not_eq_true'] at hon
    obtain ⟨o1, o2, o3⟩ := hon
    rcases h.val with ⟨e, _⟩ | ⟨_, ⟨V, _⟩, hby⟩
    · rw [o3] at e; cases e
    obtain ⟨av, kv, hvv, R⟩ := own_row8 V hby
    rw [hvv] at c16
    rw [o1] at c12
    rw [o2] at c13
    rw [o3] at c17
    have hbd := build0D
    have hbelA : Below w.heap.size w (w.alloc (.cells #[] 5)) := (Below.refl _ _).alloc (Nat.le_refl _) _
    have R0 := R.below hbelA
    have O0 := own0D w.heap.size s.v.bs w (Nat.le_refl _)
    have hszA := hbelA.size
    have d16 : (w.alloc (.cells #[] 5)).cell? ⟨d, 13, none⟩ = some (.slice av P.i kv) := (hbelA.cell hdl).trans c16
    have HB : Hid (_) := hby
    clear h V R hvv o1 o2 o3 hby
    go_enter Tryz.func143, Tryz.ntmps143
    go_wp2_with (at_builtin; refine wpList_append_row8 rfl (.tmp 21) (.tmp 25) 22 rfl w.heap.size 5 i0 (.int .u8 0) Tryz.underlying22 hi hz0 hz1 hz2 rfl _ 0 _ rfl O0 av P.i kv s.v.bs rfl R0 (by unfold maxLen; omega) (by omega) hszA ?_)
    intro v2 w2 hown2 hgrow2
    have hbel2 : Below w.heap.size w w2 := hbelA.grown hgrow2 hszA (fun k hk => (O0.lt k hk).1)
    rw [show CB s.v.bs 0 = [] from rfl, List.nil_append] at hown2
    have hown3 : w2.ownsRow w.heap.size 5 1 v2 P.i (CB s.v.bs P.i) := by simpa using hown2
    obtain ⟨a2, k2, rfl, R2⟩ := own_row8 hown3 HB.out
    have H2 : Hid (_) := And.intro hown3 (And.intro R2 hbel2)
    clear hown2 hown3 hgrow2 hbel2 O0 R0 hbelA R2 hszA d16
    go_wp2_with fail
    go_ret2
    exact ⟨a2, k2, rfl, H2.out⟩
  · rw [if_neg hon]
    have hon' : von s.v = false := by simpa using hon
    have fin : ∀ b1 b2 b3 : Bool, (b1 && (!b2 && b3)) = false → w.cell? ⟨d, 9, none⟩ = some (.bool b1) → w.cell? ⟨d, 10, none⟩ = some (.bool b2) → w.cell? ⟨d, 14, none⟩ = some (.bool b3) → Calls Tryz.prog 143 #[.pointer (some ⟨d, 8, none⟩)] w fun e w' => ∃ a cap, e = .returned (.tuple #[.slice a P.i cap, .bool false]) ∧ Hid (Fr w' w.heap.size (.slice a P.i cap) (P.i, fun _ => 0) ∧ Row8 w' a P.i cap (fun _ => 0) ∧ Below w.heap.size w w') := by
      clear h c12 c13 c16 c17 hon hon'
      intro b1 b2 b3 hb c12 c13 c17
      have hzb : ∀ i, i < P.i → (fun _ : Nat => (0 : Nat)) i < 256 := fun _ _ => by show 0 < 256; omega
      cases b1 <;> cases b2 <;> cases b3 <;> first | (simp at hb; done) | skip
      all_goals
        clear hb
        go_enter Tryz.func143, Tryz.ntmps143
        go_wp2_with (at_make; refine wpList_make8 _ rfl (.tmp 30) (.tmp 30) 22 rfl w.heap.size 5 i0 Tryz.underlying22 hi hz0 hz1 hz2 _ _ _ _ P.i P.i rfl rfl rfl rfl (Nat.le_refl _) (by omega) (Nat.le_refl _) ?_)
        intro w2 hown2 hbel2
        obtain ⟨a2, k2, ha2, R2⟩ := own_row8 hown2 hzb
        have H2 : Hid (_) := And.intro hown2 (And.intro R2 (And.intro hbel2 ha2))
        clear hown2 hbel2 R2 ha2
        go_wp2_with fail
        go_ret2
        obtain ⟨h1, h2, h3, h4⟩ := H2.out
        cases h4
        exact ⟨_, _, rfl, h1, h2, h3⟩
    rw [hon']
    exact fin _ _ _ hon' c12 c13 c17
set_option maxHeartbeats 3200000 in
theorem hrflags_any (d : Nat) (P : Pm) (U : List Nat) (s : Sh) (B : Bk3) (w : World) (h : RH w d P U s B) :
    Calls Tryz.prog 95 #[.pointer (some ⟨d, 8, none⟩), .bool s.hd] w fun e w' => e = .returned (.int .i64 (hflags s : Nat)) ∧ Below w.heap.size w w' := by
  have hO := hroutv_any d P U s B w h
  have H : Hid (_) := h
  clear h
  unfold hflags
  cases h1 : von s.v <;> cases h2 : vreq s.v <;> by_cases h3 : s.v.lat = 0 <;> cases h4 : s.hd
  all_goals
    rw [h1] at hO
    go_enter Tryz.func95, Tryz.ntmps95
    go_wp2_with fail
    refine hO.mono ?_
    rintro e w2 ⟨a2, k2, rfl, h5⟩
    have hb := h5.out.2.2
    have x2 := H.out.newd (Off.of_below hb)
    have c15 : w2.cell? ⟨d, 12, none⟩ = some (.int .i64 s.v.lat) := cell_of_row w2 d 12 _ _ _ x2.dev
    have q1 := hrqv_any _ _ _ _ _ _ x2
    rw [h2] at q1
    first
      | rw [h3] at c15
      | (have h3' : (s.v.lat != 0) = true := by simpa using h3)
    have HB : Hid (_) := hb
    clear H h5 hb x2 hO
    go_wp2_with (go_at_call 144; refine q1.mono ?_; rintro e w' ⟨rfl, hw⟩; have hw := hw.symm; subst hw)
    go_ret
    exact ⟨by first | rfl | (simp [h3]; done) | (simp [h3]; rfl), HB.out⟩
end Go.Proofs.YtndjepeolamedaaGreat
