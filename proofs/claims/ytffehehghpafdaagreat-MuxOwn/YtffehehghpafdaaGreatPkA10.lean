/- Part 11 of the texts on which the proofs of layer 13 rest: contracts of Go functions. -/
import Derived.Test.YtffehehghpafdaaGreatPkA06
import Derived.Test.YtffehehghpafdaaGreatPkA09
namespace Go.Proofs.YtffehehghpafdaaGreat
set_option maxRecDepth 100000
open Go.RowKit
theorem RW.below {w w' : World} {d m g n mx : Nat} {P : Pm} {U : List Nat} {s : Sd} (h : RW w d m g n mx P U s) (hb : Below w.heap.size w w') : RW w' d m g n mx P U s := by
  obtain ⟨B, h⟩ := h
  exact ⟨B, h.newd (Off.of_below hb)⟩
theorem RW.ult {w : World} {d m g n mx : Nat} {P : Pm} {U : List Nat} {s : Sd} (h : RW w d m g n mx P U s) (k : Nat) (hk : k ∈ U) : k < w.heap.size := by
  obtain ⟨B, h⟩ := h
  exact h.ltU k hk
end Go.Proofs.YtffehehghpafdaaGreat
namespace Go.Proofs.YtffehehghpafdaaGreat
set_option maxRecDepth 100000
open Go.RowKit
theorem RB.lived {w w1 w2 w3 : World} {d m g n mx : Nat} {P : Pm} {U : List Nat} {s : Sd} {B : Bk2} {A A' : Prop} (h : RB w d m g n mx P U s B A) {k ga : Nat} (q1 : Off [d] w w1) (b2 : Below w1.heap.size w1 w2) (ho : w2.ownsRow w1.heap.size 5 1 (.slice (some ⟨ga, 0, none⟩) P.i P.i) P.i (CB (fun _ => 0) P.i)) (q3 : Off [d] w2 w3)
    (e : w3.heap[d]? = some (.cells (RDC P m mx B.cp B.lv (.slice none 0 0) (dlife s k) (.slice (some ⟨ga, 0, none⟩) P.i P.i)) 60 (0, 0))) (h6 : A' → A) :
    ∃ U' B', Gr U w U' w3 ∧ RB w3 d m g n mx P U' (dlife s k) B' A' := by
  have s1 := q1.size
  have s2 := b2.size
  have s3 := q3.size
  have hga := own_far ho ⟨ga, 0, none⟩ rfl
  have hgl : ga < w3.heap.size := Nat.lt_of_lt_of_le hga.2 s3
  have hge : w.heap.size ≤ ga := Nat.le_trans s1 hga.1
  have hd := h.dlt
  have Q : Off [d] w w3 := (q1.trans (Off.of_below b2)).trans q3
  have hn : ∀ k, B.col k ≠ 0 → k ∉ [d] := fun k hk hm => by simp at hm; rw [hm, h.kd.1] at hk; exact hk rfl
  have hq : ∀ k x, B.col k = x ∧ k ∈ U → (if k < w.heap.size then B.col k else 6) = x ∧ k ∈ ga :: U := fun k x hk => ⟨by rw [if_pos (h.ltU k hk.2)]; exact hk.1, by simp [hk.2]⟩
  refine ⟨ga :: U, { B with vv := .slice none 0 0, av := .slice (some ⟨ga, 0, none⟩) P.i P.i, col := fun k => if k < w.heap.size then B.col k else 6 }, ⟨Q.more (by simp [h.kd.2]), fun k hk => ?_⟩, ?_⟩
  · simp at hk
    rcases hk with rfl | hk
    · exact .inr hge
    · exact .inl hk
  · refine ⟨e, h.mem.off Q (hn _ (by rw [h.km.1]; omega)) (hn _ (by rw [h.kg.1]; omega)), fun hA => ?_, .inl ⟨rfl, rfl⟩, own_offk h.log Q (fun k hk => hn _ (by rw [(h.kl k hk).1]; omega)), ?_, fun _ _ => by show 0 < 256; omega, Vok.new, Nat.zero_le _, ?_, hq _ _ h.kd, hq _ _ h.km, hq _ _ h.kg, hq _ _ h.kc, fun k hk => hq _ _ (h.kM k hk), fun k hk => hq _ _ (h.kl k hk), ?_, h.pok, h.n10, h.mx0, h.mxl, h.nl⟩
    · obtain ⟨c1, c2, c3⟩ := h.cel (h6 hA)
      exact ⟨c1, c2.off Q (hn _ (by rw [h.kc.1]; omega)), c3⟩
    · refine own_offk (own_base ho (Nat.zero_le _)) q3 (fun k hk => ?_)
      cases hk
      simp; omega
    · intro k hk
      simp at hk
      rcases hk with rfl | hk
      · exact hgl
      · exact Nat.lt_of_lt_of_le (h.ltU k hk) Q.size
    · intro k hk
      cases hk
      exact ⟨by show (if ga < w.heap.size then _ else 6) = 6; rw [if_neg (by omega)], by simp⟩
end Go.Proofs.YtffehehghpafdaaGreat
namespace Go.Proofs.YtffehehghpafdaaGreat
set_option maxRecDepth 100000
open Go.RowKit
theorem build0D (w : World) : (Instr.buildSlice 29 0 #[]).run Tryz.prog w = .ok (.slice (some ⟨w.heap.size, 0, none⟩) 0 0) (w.alloc (.cells #[] 5)) := by kernel_rfl
theorem own0D (B : Nat) (bs : Nat → Nat) (w : World) (h : B ≤ w.heap.size) : (w.alloc (.cells #[] 5)).ownsRow B 5 1 (.slice (some ⟨w.heap.size, 0, none⟩) 0 0) 0 (CB bs 0) := World.ownsRow_made w #[] 0 h (Nat.zero_le _) rfl
set_option maxHeartbeats 6400000 in
theorem same13_any (st ss nm sn dc lat : Int) (rq on : Bool) (a a' : Option Addr) (n n' cap cap' : Nat) (bs bs' : Nat → Nat) (w : World) (R : Row8 w a n cap bs) (R' : Row8 w a' n' cap' bs') (hX : BA bs n = BA bs' n') :
    Calls Tryz.prog 20 #[.agg #[.int .i64 st, .int .u32 ss, .int .u32 nm, .int .u32 sn, .int .i64 dc, .int .i64 lat, .bool rq, .bool on, .slice a n cap], .agg #[.int .i64 st, .int .u32 ss, .int .u32 nm, .int .u32 sn, .int .i64 dc, .int .i64 lat, .bool rq, .bool on, .slice a' n' cap']] w fun e w' => e = .returned (.bool true) ∧ Below w.heap.size w w' := by
  have b0 : Below w.heap.size w ((w.alloc (.cells #[.int .i64 st, .int .u32 ss, .int .u32 nm, .int .u32 sn, .int .i64 dc, .int .i64 lat, .bool rq, .bool on, .slice a n cap] 76)).alloc (.cells #[.int .i64 st, .int .u32 ss, .int .u32 nm, .int .u32 sn, .int .i64 dc, .int .i64 lat, .bool rq, .bool on, .slice a' n' cap'] 76)) := ((Below.refl _ _).alloc (Nat.le_refl _) _).alloc (by simp) _
  obtain ⟨X, hX1⟩ : ∃ X, BA bs n = X := ⟨_, rfl⟩
  have hX2 : BA bs' n' = X := hX ▸ hX1
  have q1 := conv_any a n cap bs _ (R.below b0)
  have q2 := conv_any a' n' cap' bs' _ (R'.below b0)
  rw [hX1] at q1
  rw [hX2] at q2
  have HB : Hid (_) := b0
  clear R R' hX hX1 hX2 b0
  go_enter Tryz.func20, Tryz.ntmps20
  go_wp2_with fail
  go_ret
  exact ⟨by simp, HB.out⟩
end Go.Proofs.YtffehehghpafdaaGreat
namespace Go.Proofs.YtffehehghpafdaaGreat
set_option maxRecDepth 100000
open Go.RowKit
theorem RB.vald {w w1 w2 w3 : World} {d m g n mx : Nat} {P : Pm} {U : List Nat} {s : Sd} {B : Bk2} {A : Prop} (h : RB w d m g n mx P U s B A) {v : Value} {bs : Nat → Nat} (q1 : Off [d] w w1) (b2 : Below w1.heap.size w1 w2) (ho : w2.ownsRow w1.heap.size 5 1 v P.o (CB bs P.o)) (hy : ∀ i, i < P.o → bs i < 256) (q3 : Off [d] w2 w3)
    (e : w3.heap[d]? = some (.cells (RDC P m mx B.cp B.lv v { s with v := { s.v with sm := true, bs := bs } } B.av) 60 (0, 0))) (hl : s.v.lat = 0) :
    ∃ U' B', Gr U w U' w3 ∧ RB w3 d m g n mx P U' { s with v := { s.v with sm := true, bs := bs } } B' A := by
  have s1 := q1.size
  have s2 := b2.size
  have s3 := q3.size
  have hge : ∀ k, v.ownBlock = some k → w.heap.size ≤ k := fun k hk => Nat.le_trans s1 (Fr.ge (f := (P.o, bs)) ho k hk)
  have hlt : ∀ k, v.ownBlock = some k → k < w3.heap.size := fun k hk => Nat.lt_of_lt_of_le (Fr.lt (f := (P.o, bs)) ho k hk) s3
  have hd := h.dlt
  have Q : Off [d] w w3 := (q1.trans (Off.of_below b2)).trans q3
  have hn : ∀ k, B.col k ≠ 0 → k ∉ [d] := fun k hk hm => by simp at hm; rw [hm, h.kd.1] at hk; exact hk rfl
  have hq : ∀ k x, B.col k = x ∧ k ∈ U → (if k < w.heap.size then B.col k else 4) = x ∧ k ∈ v.ownBlock.toList ++ U := fun k x hk => ⟨by rw [if_pos (h.ltU k hk.2)]; exact hk.1, List.mem_append.2 (.inr hk.2)⟩
  refine ⟨v.ownBlock.toList ++ U, { B with vv := v, M := v.ownBlock.toList, col := fun k => if k < w.heap.size then B.col k else 4 }, ⟨Q.more (by simp [h.kd.2]), fun k hk => ?_⟩, ?_⟩
  · rcases List.mem_append.1 hk with hk | hk
    · exact .inr (hge k (by simpa using hk))
    · exact .inl hk
  · refine ⟨e, h.mem.off Q (hn _ (by rw [h.km.1]; omega)) (hn _ (by rw [h.kg.1]; omega)), fun hA => ?_, .inr ⟨rfl, ⟨own_offk (own_base ho (Nat.zero_le _)) q3 (fun k hk => by have := hge k hk; simp; omega), fun k hk => by simpa using hk⟩, hy⟩, own_offk h.log Q (fun k hk => hn _ (by rw [(h.kl k hk).1]; omega)), own_offk h.app Q (fun k hk => hn _ (by rw [(h.ka k hk).1]; omega)), h.apb, ⟨h.vok.fr, fun _ => hl⟩, h.dcl, ?_, hq _ _ h.kd, hq _ _ h.km, hq _ _ h.kg, hq _ _ h.kc, ?_, fun k hk => hq _ _ (h.kl k hk), fun k hk => hq _ _ (h.ka k hk), h.pok, h.n10, h.mx0, h.mxl, h.nl⟩
    · obtain ⟨c1, c2, c3⟩ := h.cel hA
      exact ⟨c1, c2.off Q (hn _ (by rw [h.kc.1]; omega)), c3⟩
    · intro k hk
      rcases List.mem_append.1 hk with hk | hk
      · exact hlt k (by simpa using hk)
      · exact Nat.lt_of_lt_of_le (h.ltU k hk) Q.size
    · intro k hk
      have := hge k (by simpa using hk)
      exact ⟨by show (if k < w.heap.size then _ else 4) = 4; rw [if_neg (by omega)], List.mem_append.2 (.inl hk)⟩
end Go.Proofs.YtffehehghpafdaaGreat
namespace Go.Proofs.YtffehehghpafdaaGreat
set_option maxRecDepth 100000
open Go.RowKit
end Go.Proofs.YtffehehghpafdaaGreat
