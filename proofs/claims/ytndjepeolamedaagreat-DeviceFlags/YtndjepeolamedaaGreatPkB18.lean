/- Part 19 of the texts on which the proofs of layer 13 rest: contracts of Go functions. -/
import Derived.Test.YtndjepeolamedaaGreatPkB17
namespace Go.Proofs.YtndjepeolamedaaGreat
set_option maxRecDepth 100000
open Go.RowKit
set_option maxHeartbeats 3200000 in
theorem routv_any (d m g n mx : Nat) (P : Pm) (U : List Nat) (s : Sd) (B : Bk2) (A : Prop) (w : World) (h : RB w d m g n mx P U s B A) :
    Calls Tryz.prog 143 #[.pointer (some ⟨d, 11, none⟩)] w fun e w' => ∃ a cap, e = .returned (.tuple #[.slice a P.o cap, .bool (von s.v)]) ∧ Hid (Fr w' w.heap.size (.slice a P.o cap) (P.o, vout s.v) ∧ Row8 w' a P.o cap (vout s.v) ∧ Below w.heap.size w w') := by
  obtain ⟨i0, hi, hz0, hz1, hz2⟩ := info_parts info_u8
  have c11 : w.cell? ⟨d, 11, none⟩ = some (.int .i64 (P.o : Nat)) := cell_of_row w d 11 _ _ _ h.dev
  have c12 : w.cell? ⟨d, 12, none⟩ = some (.bool s.v.run) := cell_of_row w d 12 _ _ _ h.dev
  have c13 : w.cell? ⟨d, 13, none⟩ = some (.bool s.v.held) := cell_of_row w d 13 _ _ _ h.dev
  have c16 : w.cell? ⟨d, 16, none⟩ = some B.vv := cell_of_row w d 16 _ _ _ h.dev
  have c17 : w.cell? ⟨d, 17, none⟩ = some (.bool s.v.sm) := cell_of_row w d 17 _ _ _ h.dev
  have ho8 := h.pok.o8
  have hdl := h.dlt
  unfold vout
  by_cases hon : von s.v = true
  · rw [if_pos hon, hon]
    simp only [von, Bool.and_eq_true, Bool.not_eq_true'] at hon
    obtain ⟨o1, o2, o3⟩ := hon
    rcases h.val with ⟨e, _⟩ | ⟨_, ⟨V, _⟩, hby⟩
    · rw [o3] at e; cases e
    obtain ⟨av, kv, hvv, R⟩ := own_row8 V hby
    rw [hvv] at c16
    rw [o1] at c12
    rw [o2] at c13
    rw [o3] at c17
    have hbd := build0D
    have hbelA : Below w.heap.size w (w.alloc (.cells #[] 5)) := (Below.refl _ _).alloc (Nat.le_refl _) _
    have R0 := R.below hbelA
    have O0 := own0D w.heap.size s.v.bs w (Nat.le_refl _)
    have hszA := hbelA.size
    have d16 : (w.alloc (.cells #[] 5)).cell? ⟨d, 16, none⟩ = some (.slice av P.o kv) := (hbelA.cell hdl).trans c16
    have HB : Hid (_) := hby
    clear h V R hvv o1 o2 o3 hby
    go_enter Tryz.func143, Tryz.ntmps143
    go_wp2_with (at_builtin; refine wpList_append_row8 rfl (.tmp 21) (.tmp 25) 22 rfl w.heap.size 5 i0 (.int .u8 0) Tryz.underlying22 hi hz0 hz1 hz2 rfl _ 0 _ rfl O0 av P.o kv s.v.bs rfl R0 (by unfold maxLen; omega) (by omega) hszA ?_)
    intro v2 w2 hown2 hgrow2
    have hbel2 : Below w.heap.size w w2 := hbelA.grown hgrow2 hszA (fun k hk => (O0.lt k hk).1)
    rw [show CB s.v.bs 0 = [] from rfl, List.nil_append] at hown2
    have hown3 : w2.ownsRow w.heap.size 5 1 v2 P.o (CB s.v.bs P.o) := by simpa using hown2
    obtain ⟨a2, k2, rfl, R2⟩ := own_row8 hown3 HB.out
    have H2 : Hid (_) := And.intro hown3 (And.intro R2 hbel2)
    clear hown2 hown3 hgrow2 hbel2 O0 R0 hbelA R2 hszA d16
    go_wp2_with fail
    go_ret2
    exact ⟨a2, k2, rfl, H2.out⟩
  · rw [if_neg hon]
    have hon' : von s.v = false := by simpa using hon
    have fin : ∀ b1 b2 b3 : Bool, (b1 && (!b2 && b3)) = false → w.cell? ⟨d, 12, none⟩ = some (.bool b1) → w.cell? ⟨d, 13, none⟩ = some (.bool b2) → w.cell? ⟨d, 17, none⟩ = some (.bool b3) → Calls Tryz.prog 143 #[.pointer (some ⟨d, 11, none⟩)] w fun e w' => ∃ a cap, e = .returned (.tuple #[.slice a P.o cap, .bool false]) ∧ Hid (Fr w' w.heap.size (.slice a P.o cap) (P.o, fun _ => 0) ∧ Row8 w' a P.o cap (fun _ => 0) ∧ Below w.heap.size w w') := by
      clear h c12 c13 c16 c17 hon hon'
      intro b1 b2 b3 hb c12 c13 c17
      have hzb : ∀ i, i < P.o → (fun _ : Nat => (0 : Nat)) i < 256 := fun _ _ => by show 0 < 256; omega
      cases b1 <;> cases b2 <;> cases b3 <;> first | (simp at hb; done) | skip
      all_goals
        clear hb
        go_enter Tryz.func143, Tryz.ntmps143
        go_wp2_with (at_make; refine wpList_make8 _ rfl (.tmp 30) (.tmp 30) 22 rfl w.heap.size 5 i0 Tryz.underlying22 hi hz0 hz1 hz2 _ _ _ _ P.o P.o rfl rfl rfl rfl (Nat.le_refl _) (by omega) (Nat.le_refl _) ?_)
        intro w2 hown2 hbel2
        obtain ⟨a2, k2, ha2, R2⟩ := own_row8 hown2 hzb
        have H2 : Hid (_) := And.intro hown2 (And.intro R2 (And.intro hbel2 ha2))
        clear hown2 hbel2 R2 ha2
        go_wp2_with fail
        go_ret2
        obtain ⟨h1, h2, h3, h4⟩ := H2.out
        cases h4
        exact ⟨_, _, rfl, h1, h2, h3⟩
    rw [hon']
    exact fin _ _ _ hon' c12 c13 c17
set_option maxHeartbeats 3200000 in
theorem rflags_any (d m g n mx : Nat) (P : Pm) (U : List Nat) (s : Sd) (B : Bk2) (A : Prop) (w : World) (h : RB w d m g n mx P U s B A) :
    Calls Tryz.prog 95 #[.pointer (some ⟨d, 11, none⟩), .bool s.hd] w fun e w' => e = .returned (.int .i64 (dflags s : Nat)) ∧ Below w.heap.size w w' := by
  have hO := routv_any d m g n mx P U s B A w h
  have H : Hid (_) := h
  clear h
  unfold dflags
  cases h1 : von s.v <;> cases h2 : vreq s.v <;> by_cases h3 : s.v.lat = 0 <;> cases h4 : s.hd
  all_goals
    rw [h1] at hO
    go_enter Tryz.func95, Tryz.ntmps95
    go_wp2_with fail
    refine hO.mono ?_
    rintro e w2 ⟨a2, k2, rfl, h5⟩
    have hb := h5.out.2.2
    have x2 := H.out.newd (Off.of_below hb)
    have c15 : w2.cell? ⟨d, 15, none⟩ = some (.int .i64 s.v.lat) := cell_of_row w2 d 15 _ _ _ x2.dev
    have q1 := rqv_any _ _ _ _ _ _ _ _ _ _ _ x2
    rw [h2] at q1
    first
      | rw [h3] at c15
      | (have h3' : (s.v.lat != 0) = true := by simpa using h3)
    have HB : Hid (_) := hb
    clear H h5 hb x2 hO
    go_wp2_with (go_at_call 144; refine q1.mono ?_; rintro e w' ⟨rfl, hw⟩; have hw := hw.symm; subst hw)
    go_ret
    exact ⟨by first | rfl | (simp [h3]; done) | (simp [h3]; rfl), HB.out⟩
end Go.Proofs.YtndjepeolamedaaGreat
namespace Go.Proofs.YtndjepeolamedaaGreat
set_option maxRecDepth 100000
open Go.RowKit
theorem nx_vz {mx n : Nat} {s : Ms} (hn : 10 ≤ n) (ho : s.off = false) (hl : 0 ≤ s.l) (hmx : mx < 4294967296) :
    ((nx mx n s.bs false s).e = 0 → (nx mx n s.bs false s).v = vz s.bs + 1 ∧ vz (nx mx n s.bs false s).s.bs = vz s.bs + 1 ∧ vz s.bs < mx) ∧ ((nx mx n s.bs false s).e ≠ 0 → vz (nx mx n s.bs false s).s.bs = vz s.bs) := by
  unfold nx
  rw [if_neg (by simp [ho])]
  by_cases hm : mx ≤ vz s.bs
  · rw [if_pos hm]
    exact ⟨fun e => (by cases e), fun _ => rfl⟩
  · rw [if_neg hm]
    rcases sq_all n (six (tg s.bs) (vz s.bs + 1)) s (fun x hx => (six_in _ _ n (tg_lt _) hn x hx).1) ho hl with ⟨h1, h2, _⟩ | ⟨h1, h2, _, h4⟩
    · rw [if_pos h1]
      refine ⟨fun _ => ⟨rfl, ?_, by omega⟩, fun e => absurd rfl e⟩
      show vz (sqS n (six (tg s.bs) (vz s.bs + 1)) s).bs = _
      rw [h2]
      exact vz_next _ _ (by omega) (by omega)
    · rw [if_neg (by omega)]
      refine ⟨fun e => (by cases e), fun _ => ?_⟩
      show vz (sqS n (six (tg s.bs) (vz s.bs + 1)) s).bs = _
      rw [h2]
      refine vz_cut _ _ _ ?_
      have : (six (tg s.bs) (vz s.bs + 1)).length = 6 := rfl
      omega
theorem opS_vz {mx n : Nat} {s : Ms} (hl : 0 ≤ s.l) (hz : Bz s.bs) : vz (opS mx n s).bs = vz s.bs := by
  unfold opS
  by_cases h1 : mx = 0 ∨ n < 10
  · rw [if_pos h1]
  · rw [if_neg h1]
    by_cases h2 : s.off = true
    · rw [if_pos h2]
    · rw [if_neg h2]
      rcases sq_all n (mend s.bs) s (fun x hx => (mend_in s.bs n (by omega) x hx).1) (by simpa using h2) hl with ⟨_, e, _⟩ | ⟨_, e, _⟩
      · rw [e]
        have := vz_mend s.bs (mend s.bs).length hz
        rwa [List.take_length] at this
      · rw [e]
        exact vz_mend s.bs _ hz
theorem dodd_idle {s : Sd} (h : s.st = 1) : dodd s = s := by
  unfold dodd dbusy
  rw [h]
  rfl
theorem dwish_idle (P : Pm) (mx n : Nat) {s : Sd} (h : s.st = 1) : dwish P mx n s = dbegin P mx n s := by
  unfold dwish
  rw [dodd_idle h, h]
  rfl
theorem ses_begin (P : Pm) (mx n : Nat) {s : Sd} (hn : 10 ≤ n) (ho : s.ms.off = false) (hl : 0 ≤ s.ms.l) (hmx : mx < 4294967296) :
    ((dbegin P mx n s).e = 0 → (dbegin P mx n s).s.ss = vz s.ms.bs + 1 ∧ vz (dbegin P mx n s).s.ms.bs = vz s.ms.bs + 1) ∧ ((dbegin P mx n s).e ≠ 0 → vz (dbegin P mx n s).s.ms.bs = vz s.ms.bs) ∧ (dbegin P mx n s).s.ms.t ≤ s.ms.t + 6 := by
  have hv := nx_vz (mx := mx) hn ho hl hmx
  have ht := nx_t mx n s.ms.bs false s.ms hn hl
  unfold dbegin
  generalize nx mx n s.ms.bs false s.ms = x at *
  by_cases h1 : x.e = 80
  · rw [if_pos h1]
    have hm : (dleave (dlatch { s with ms := x.s } 80) 5).ms = x.s := by show (dlatch { s with ms := x.s } 80).ms = x.s; rw [dlatch_ms]
    refine ⟨fun e => (by cases e), fun _ => ?_, ?_⟩
    · show vz (dleave (dlatch { s with ms := x.s } 80) 5).ms.bs = _
      rw [hm]; exact hv.2 (by omega)
    · show (dleave (dlatch { s with ms := x.s } 80) 5).ms.t ≤ _
      rw [hm]; exact ht
  · rw [if_neg h1]
    by_cases h2 : x.e = 0
    · rw [if_neg (by omega)]
      exact ⟨fun _ => ⟨(hv.1 h2).1, (hv.1 h2).2.1⟩, fun e => absurd rfl e, ht⟩
    · rw [if_pos h2]
      exact ⟨fun e => absurd e h2, fun _ => hv.2 h2, ht⟩
theorem ses_recv (P : Pm) (hP : Pok P) (mx n : Nat) {s : Sd} (hs : s.st = 1) (hn : 10 ≤ n) (ho : s.ms.off = false) (hl : 0 ≤ s.ms.l) (hmx : mx < 4294967296) :
    ((drecv P mx n s (wishF P).1 (wishF P).2).e = 0 → (drecv P mx n s (wishF P).1 (wishF P).2).s.ss = vz s.ms.bs + 1 ∧ vz (drecv P mx n s (wishF P).1 (wishF P).2).s.ms.bs = vz s.ms.bs + 1) ∧ ((drecv P mx n s (wishF P).1 (wishF P).2).e ≠ 0 → vz (drecv P mx n s (wishF P).1 (wishF P).2).s.ms.bs = vz s.ms.bs) ∧
      (drecv P mx n s (wishF P).1 (wishF P).2).s.ms.t ≤ s.ms.t + 6 ∧ (drecv P mx n s (wishF P).1 (wishF P).2).s.L.length ≤ s.L.length + 3 := by
  have hb := ses_begin P mx n hn ho hl hmx
  have hL := dbegin_len P mx n s
  unfold drecv
  rw [if_neg (by omega), hear_wish P hP, dwish_idle P mx n hs]
  by_cases he : (dbegin P mx n s).e ≠ 0 ∧ (dbegin P mx n s).e ≠ 70
  · rw [if_pos he]
    refine ⟨fun e => absurd e he.1, fun _ => hb.2.1 he.1, hb.2.2, ?_⟩
    show ((dbegin P mx n s).s.L ++ [_]).length ≤ _
    simp; omega
  · rw [if_neg he]
    exact ⟨hb.1, hb.2.1, hb.2.2, by omega⟩
theorem rsM_zero (s : Ms) : rsM s 0 = { s with off := false, ar := false } := if_neg (by omega)
theorem reset_zero {mx n : Nat} (s : Sd) (hm : mx ≠ 0) (hn : 10 ≤ n) (hl : 0 ≤ s.ms.l) : dresetE mx n s 0 = 0 := by
  unfold dresetE
  rw [if_neg (by omega), rsM_zero]
  unfold opE
  rw [if_neg (by omega), if_neg (by simp)]
  rcases sq_all n (mend s.ms.bs) { s.ms with off := false, ar := false } (fun x hx => (mend_in s.ms.bs n hn x hx).1) rfl hl with ⟨e, _⟩ | ⟨_, _, e, _⟩
  · exact e
  · cases e
theorem reset_vz {mx n : Nat} (s : Sd) (k : Int) (hz : Bz s.ms.bs) (hl : 0 ≤ s.ms.l) : vz (dresetS mx n s k).ms.bs = vz s.ms.bs ∧ (dresetS mx n s k).ms.t ≤ s.ms.t + 6 ∧ (dresetS mx n s k).L = s.L := by
  unfold dresetS
  by_cases hk : k < 0
  · rw [if_pos hk]; exact ⟨rfl, by omega, rfl⟩
  · rw [if_neg hk]
    have hb : (rsM s.ms k).bs = s.ms.bs ∧ (rsM s.ms k).t = s.ms.t ∧ 0 ≤ (rsM s.ms k).l := by
      unfold rsM arS
      split
      · split
        · exact ⟨rfl, rfl, hl⟩
        · exact ⟨rfl, rfl, by show 0 ≤ k - 1; omega⟩
      · exact ⟨rfl, rfl, hl⟩
    refine ⟨?_, ?_, rfl⟩
    · show vz (opS mx n (rsM s.ms k)).bs = _
      rw [opS_vz hb.2.2 (by rw [hb.1]; exact hz), hb.1]
    · have := opS_t mx n (rsM s.ms k) hb.2.2
      show (opS mx n (rsM s.ms k)).t ≤ _
      omega
theorem reset_idle {mx n : Nat} (s : Sd) (h : dresetE mx n s 0 = 0) : (dresetS mx n s 0).st = 1 ∧ (dresetS mx n s 0).sn = 0 ∧ (dresetS mx n s 0).od = 0 := by
  unfold dresetE at h
  rw [if_neg (by omega)] at h
  unfold dresetS
  rw [if_neg (by omega), if_pos h]
  exact ⟨rfl, rfl, rfl⟩
theorem DV.facts {w : World} {d m g n mx : Nat} {P : Pm} {U : List Nat} {s : Sd} (h : DV w d m g n mx P U s) : Bz s.ms.bs ∧ 0 ≤ s.ms.l ∧ 10 ≤ n ∧ mx ≠ 0 ∧ mx < 4294967296 ∧ (s.st ≠ 6 → s.ms.off = false) := by
  obtain ⟨B, x⟩ := h
  exact ⟨fun i hi => x.mem.byte i (by have := x.n10; omega), x.mem.l0, x.n10, x.mx0, x.mxl, fun hs => (x.cel hs).2.2⟩
theorem dvarm_any (d m g n mx : Nat) (P : Pm) (U : List Nat) (s : Sd) (p : Int) (w : World) (h : DV w d m g n mx P U s) (hp : p ≤ 9223372036854775807) :
    Calls Tryz.prog 73 #[.pointer (some ⟨m, 0, none⟩), .int .i64 p] w fun e w' => e = .returned (.int .i64 (arE p)) ∧ Hid (∃ U', Gr U w U' w' ∧ DV w' d m g n mx P U' { s with ms := arS s.ms p }) := by
  obtain ⟨B, x⟩ := h
  refine (arm_any m g n s.ms p w x.mem hp).mono ?_
  rintro e w' ⟨rfl, o, m'⟩
  refine ⟨rfl, U, Gr.same (o.more (m := [m, g, B.c]) (by simp)) x.memU, B, x.memd (o.more (by simp)) m' (A' := s.st ≠ 6) (fun hs => ?_)⟩
  obtain ⟨c1, c2, c3⟩ := x.cel hs
  have hne : B.c ∉ [m] := fun hm => by simp at hm; have := x.kc.1; rw [hm, x.km.1] at this; omega
  have e1 : (arS s.ms p).bs = s.ms.bs := by unfold arS; split <;> rfl
  have e2 : (arS s.ms p).off = s.ms.off := by unfold arS; split <;> rfl
  rw [e1, e2]
  exact ⟨c1, c2.off o hne, c3⟩
end Go.Proofs.YtndjepeolamedaaGreat
namespace Go.Proofs.YtndjepeolamedaaGreat
set_option maxRecDepth 100000
open Go.RowKit
def OutR (U : List Nat) (w w' : World) (d m g n mx : Nat) (P : Pm) (s : Sd) (f : Fm) (v : Value) : Prop :=
  ∃ U', Gr U w U' w' ∧ RW w' d m g n mx P U' s ∧ Fr w' w.heap.size v f ∧ ∀ k, v.ownBlock = some k → k ∉ U'
theorem OutR.mk {U U1 : List Nat} {w w1 w2 : World} {d m g n mx : Nat} {P : Pm} {s : Sd} {f : Fm} {v : Value} (h : Gr U w U1 w1) (x : RW w1 d m g n mx P U1 s) (hf : Fr w2 w1.heap.size v f) (hb : Below w1.heap.size w1 w2) : OutR U w w2 d m g n mx P s f v :=
  ⟨U1, h.trans (Gr.below hb), x.below hb, own_base hf h.off.size, fun k hk hm => by have := x.ult k hm; have := hf.ge k hk; omega⟩
theorem OutR.none_ {U U1 : List Nat} {w w1 : World} {d m g n mx : Nat} {P : Pm} {s : Sd} (h : Gr U w U1 w1) (x : RW w1 d m g n mx P U1 s) : OutR U w w1 d m g n mx P s fm0 (.slice none 0 0) :=
  ⟨U1, h, x, own_nil _ _ _, fun k hk => by cases hk⟩
theorem RB.memd {w w' : World} {d m g n mx : Nat} {P : Pm} {U : List Nat} {s : Sd} {B : Bk2} {A A' : Prop} (h : RB w d m g n mx P U s B A) (q : Off [m, g, B.c] w w') {ms : Ms} (e : RR w' m g n ms) (hc : A' → B.cp = .pointer (some ⟨B.c, 0, none⟩) ∧ RX w' B.c m mx (vz ms.bs) false ∧ ms.off = false) :
    RB w' d m g n mx P U { s with ms := ms } B A' := by
  have hn : ∀ k, B.col k ≠ 1 → B.col k ≠ 2 → k ∉ [m, g, B.c] := fun k hk h2 hm => by
    simp at hm
    rcases hm with hm | hm | hm
    · rw [hm] at hk; exact hk h.km.1
    · rw [hm] at hk; exact hk h.kg.1
    · rw [hm] at h2; exact h2 h.kc.1
  refine ⟨(q.block d h.dlt (hn _ (by rw [h.kd.1]; omega) (by rw [h.kd.1]; omega))).trans h.dev, e, hc, ?_, ?_, ?_, h.apb, h.vok, h.dcl, fun k hk => Nat.lt_of_lt_of_le (h.ltU k hk) q.size, h.kd, h.km, h.kg, h.kc, h.kM, h.kl, h.ka, h.pok, h.n10, h.mx0, h.mxl, h.nl⟩
  · exact h.val.off q (fun k hk hM => hn k (by rw [(h.kM k hM).1]; omega) (by rw [(h.kM k hM).1]; omega) hk)
  · exact own_offk h.log q (fun k hk => hn _ (by rw [(h.kl k hk).1]; omega) (by rw [(h.kl k hk).1]; omega))
  · exact own_offk h.app q (fun k hk => hn _ (by rw [(h.ka k hk).1]; omega) (by rw [(h.ka k hk).1]; omega))
theorem RB.memU {w : World} {d m g n mx : Nat} {P : Pm} {U : List Nat} {s : Sd} {B : Bk2} {A : Prop} (h : RB w d m g n mx P U s B A) : ∀ k, k ∈ [m, g, B.c] → k ∈ U := fun k hk => by
  simp at hk
  rcases hk with hk | hk | hk
  · rw [hk]; exact h.km.2
  · rw [hk]; exact h.kg.2
  · rw [hk]; exact h.kc.2
theorem dodd_ss {s : Sd} (h : s.ss < 4294967296) : (dodd s).ss < 4294967296 := by
  unfold dodd
  split
  · split
    · exact h
    · show (0 : Nat) < _; omega
  · exact h
set_option maxHeartbeats 6400000 in
theorem rwish_any (d m g n mx : Nat) (P : Pm) (U : List Nat) (s : Sd) (w : World) (h : RW w d m g n mx P U s) (hs : s.st ≠ 6) (ho : s.od < 4) (hL : s.L.length < 800000) (ht : s.ms.t < 9223372036854774000) (hss : s.ss < 4294967296) :
    Calls Tryz.prog 123 #[.pointer (some ⟨d, 0, none⟩)] w fun e w' => ∃ v, e = .returned (.tuple #[v, .int .i64 (dwish P mx n s).e]) ∧ Hid (OutR U w w' d m g n mx P (dwish P mx n s).s (dwish P mx n s).f v) := by
  obtain ⟨B, h0⟩ := id h
  have c18 : w.cell? ⟨d, 18, none⟩ = some (.int .i64 (s.st : Nat)) := cell_of_row w d 18 _ _ _ h0.dev
  have hI := rbusy_any d s.st w c18
  have hS := rstrange_any d m g n mx P U s w h hs ho (by omega)
  have HH : Hid (_) := And.intro h (And.intro hs (And.intro hL (And.intro ht hss)))
  clear h h0 hs hL ht hss c18
  by_cases hb : dbusy s = true
  · rw [show decide (s.st = 2 ∨ s.st = 3 ∨ s.st = 4) = true from hb] at hI
    have hst : s.st = 2 ∨ s.st = 3 ∨ s.st = 4 := by unfold dbusy at hb; simpa using hb
    by_cases h4 : s.od + 1 < 4
    · have hov : dover s = false := by unfold dover; rw [hb]; simp; omega
      have hdd : (dodd s).st = s.st := by unfold dodd; rw [if_pos hb, if_pos h4]
      rw [hov] at hS
      rcases hst with h2 | h3
      · have hw : dwish P mx n s = ⟨dodd s, doffer P (dodd s), 130⟩ := by unfold dwish; rw [if_pos (by rw [hdd]; exact h2)]
        rw [hw]
        have H1 : Hid (_) := And.intro hdd h2
        clear hb h4 hov hdd h2 hw ho
        go_enter Tryz.func123, Tryz.ntmps123
        go_wp2_with (first | (go_at_call 183; refine hI.mono ?_; rintro e w' ⟨rfl, hw⟩; have hw := hw.symm; subst hw) | (go_at_call 124; refine hS.mono ?_; rintro e w2 ⟨rfl, h2⟩; obtain ⟨U2, g2, B2, x2⟩ := h2.out; have c18 : w2.cell? ⟨d, 18, none⟩ = some (.int .i64 ((dodd s).st : Nat)) := cell_of_row w2 d 18 _ _ _ x2.dev; rw [H1.out.1, H1.out.2] at c18; have H2 : Hid (_) := And.intro g2 x2; clear h2 g2 x2))
        have hN := roffer_any d m g n mx P U2 (dodd s) w2 ⟨B2, H2.out.2⟩ (dodd_ss HH.out.2.2.2.2)
        clear c18 hI hS
        go_wp2_with (go_at_call 184; refine hN.mono ?_; rintro e w5 ⟨v, rfl, h5⟩)
        go_ret2
        exact ⟨v, rfl, OutR.mk H2.out.1 ⟨B2, H2.out.2⟩ h5.out.1 h5.out.2⟩
      · have hw : dwish P mx n s = ⟨dodd s, dnone P (dodd s), 130⟩ := by unfold dwish; rw [if_neg (by rw [hdd]; omega), if_pos (by rw [hdd]; exact h3)]
        rw [hw]
        have e2 : ((s.st : Int) == 2) = false := by simp; omega
        have H1 : Hid (_) := hdd
        clear hb h4 hov hdd h3 hw ho
        go_enter Tryz.func123, Tryz.ntmps123
        go_wp2_with (first | (go_at_call 183; refine hI.mono ?_; rintro e w' ⟨rfl, hw⟩; have hw := hw.symm; subst hw) | (go_at_call 124; refine hS.mono ?_; rintro e w2 ⟨rfl, h2⟩; obtain ⟨U2, g2, B2, x2⟩ := h2.out; have c18 : w2.cell? ⟨d, 18, none⟩ = some (.int .i64 ((dodd s).st : Nat)) := cell_of_row w2 d 18 _ _ _ x2.dev; rw [H1.out] at c18; have H2 : Hid (_) := And.intro g2 x2; clear h2 g2 x2))
        have hN := rnone_any d m g n mx P U2 (dodd s) w2 ⟨B2, H2.out.2⟩ (dodd_ss HH.out.2.2.2.2)
        clear c18 hI hS
        go_wp2_with (go_at_call 125; refine hN.mono ?_; rintro e w5 ⟨v, rfl, h5⟩)
        go_ret2
        exact ⟨v, rfl, OutR.mk H2.out.1 ⟨B2, H2.out.2⟩ h5.out.1 h5.out.2⟩
    · have hov : dover s = true := by unfold dover; rw [hb]; simp; omega
      have hdd : (dodd s).st = 1 := by unfold dodd; rw [if_pos hb, if_neg h4]; rfl
      rw [hov] at hS
      have hw : dwish P mx n s = dbegin P mx n (dodd s) := by unfold dwish; rw [if_neg (by rw [hdd]; omega), if_neg (by rw [hdd]; omega)]
      rw [hw]
      obtain ⟨B0, y0⟩ := HH.out.1
      have F0 : 10 ≤ n ∧ s.ms.off = false ∧ 0 ≤ s.ms.l ∧ mx < 4294967296 := ⟨y0.n10, (y0.cel HH.out.2.1).2.2, y0.mem.l0, y0.mxl⟩
      clear y0
      have hms := dodd_ms s
      have hv := nx_live (mx := mx) (n := n) (s := (dodd s).ms) F0.1 (by rw [hms]; exact F0.2.1) (by rw [hms]; exact F0.2.2.1)
      have ht1 : (dodd s).ms.t < 9223372036854774000 := by rw [hms]; exact HH.out.2.2.2.1
      have hL1 : (dodd s).L.length < 900000 := by have := dodd_len s; have := HH.out.2.2.1; omega
      have hup := dodd_up HH.out.2.1
      have hvz := nx_vz (mx := mx) (n := n) (s := (dodd s).ms) F0.1 (by rw [hms]; exact F0.2.1) (by rw [hms]; exact F0.2.2.1) F0.2.2.2
      unfold dbegin
      obtain ⟨X, hX0⟩ : ∃ X, nx mx n (dodd s).ms.bs false (dodd s).ms = X := ⟨_, rfl⟩
      rw [hX0] at hv hvz ⊢
      have HP : Hid (_) := And.intro hX0 (And.intro ht1 (And.intro hL1 (And.intro hup hvz)))
      clear hX0 ht1 hL1 hup hvz hms hw F0
      clear hst hb h4 hov ho hdd
      rcases hv with he | ⟨he, hc, hz, hoff⟩
      · rw [he, if_neg (by omega), if_pos (by omega)]
        go_enter Tryz.func123, Tryz.ntmps123
        go_wp2_with (first | (go_at_call 183; refine hI.mono ?_; rintro e w' ⟨rfl, hw⟩; have hw := hw.symm; subst hw) | (go_at_call 124; refine hS.mono ?_; rintro e w2 ⟨rfl, h2⟩; obtain ⟨U2, g2, B2, x2⟩ := h2.out; have c7 : w2.cell? ⟨d, 7, none⟩ = some B2.cp := cell_of_row w2 d 7 _ _ _ x2.dev; rw [(x2.cel HP.out.2.2.2.1).1] at c7; have H2 : Hid (_) := And.intro g2 x2; clear h2 g2 x2))
        clear hI hS
        have hX := rnext B2.c m g n mx (dodd s).ms.bs false (dodd s).ms w2 H2.out.2.mem (H2.out.2.cel HP.out.2.2.2.1).2.1 (fun _ => rfl) (fun e => by have := H2.out.2.kc.1; rw [e, H2.out.2.km.1] at this; omega) (fun e => by have := H2.out.2.kc.1; rw [e, H2.out.2.kg.1] at this; omega) H2.out.2.n10 H2.out.2.mxl HP.out.2.1
        rw [HP.out.1, he] at hX
        go_wp2_with fail
        refine hX.mono ?_
        rintro e w3 ⟨rfl, o3, m3, k3⟩
        have g3 := H2.out.1.trans (Gr.same o3 H2.out.2.memU)
        have x3 := H2.out.2.memd o3 m3 (A' := False) (fun h => h.elim)
        have hD := rlife_any d m g n mx P U2 _ B2 False 6 w3 x3
        have H3 : Hid (_) := g3
        clear hX o3 m3 k3 x3 g3 H2 c7
        go_wp2_with (go_at_call 55; refine hD.mono ?_; rintro e w4 ⟨rfl, h4⟩)
        go_ret2
        obtain ⟨U4, B4, g4, x4⟩ := h4.out
        exact ⟨_, rfl, OutR.none_ (H3.out.trans g4) ⟨B4, { x4 with cel := fun hs => absurd rfl hs }⟩⟩
      · rcases he with he | he
        · rw [he, if_pos rfl]
          go_enter Tryz.func123, Tryz.ntmps123
          go_wp2_with (first | (go_at_call 183; refine hI.mono ?_; rintro e w' ⟨rfl, hw⟩; have hw := hw.symm; subst hw) | (go_at_call 124; refine hS.mono ?_; rintro e w2 ⟨rfl, h2⟩; obtain ⟨U2, g2, B2, x2⟩ := h2.out; have c7 : w2.cell? ⟨d, 7, none⟩ = some B2.cp := cell_of_row w2 d 7 _ _ _ x2.dev; rw [(x2.cel HP.out.2.2.2.1).1] at c7; have H2 : Hid (_) := And.intro g2 x2; clear h2 g2 x2))
          clear hI hS
          have hX := rnext B2.c m g n mx (dodd s).ms.bs false (dodd s).ms w2 H2.out.2.mem (H2.out.2.cel HP.out.2.2.2.1).2.1 (fun _ => rfl) (fun e => by have := H2.out.2.kc.1; rw [e, H2.out.2.km.1] at this; omega) (fun e => by have := H2.out.2.kc.1; rw [e, H2.out.2.kg.1] at this; omega) H2.out.2.n10 H2.out.2.mxl HP.out.2.1
          rw [HP.out.1, he] at hX
          go_wp2_with fail
          refine hX.mono ?_
          rintro e w3 ⟨rfl, o3, m3, k3⟩
          have g3 := H2.out.1.trans (Gr.same o3 H2.out.2.memU)
          rw [hc, hz] at k3
          have x3 := H2.out.2.memd o3 m3 (A' := (dodd s).st ≠ 6) (fun h => ⟨(H2.out.2.cel h).1, k3, hoff⟩)
          have hT := rvlatch_any d m g n mx P U2 { dodd s with ms := X.s } 80 w3 ⟨B2, x3⟩ (by omega) HP.out.2.2.1
          have H3 : Hid (_) := g3
          clear hX o3 m3 k3 x3 g3 H2 c7
          go_wp2_with (go_at_call 130; refine hT.mono ?_; rintro e w4 ⟨rfl, h4⟩)
          obtain ⟨U4, g4, x4⟩ := h4.out
          have hV := rvleave_any d m g n mx P U4 _ 5 w4 x4 (by rw [dlatch_st]; exact HP.out.2.2.2.1)
          have H4 : Hid (_) := H3.out.trans g4
          clear hT h4 g4 x4 H3
          go_wp2_with (go_at_call 186; refine hV.mono ?_; rintro e w5 ⟨rfl, h5⟩)
          obtain ⟨U5, g5, x5⟩ := h5.out
          have hN := rnone_any d m g n mx P U5 _ w5 x5 (by show (0 : Nat) < _; omega)
          have H5 : Hid (_) := And.intro (H4.out.trans g5) x5
          clear hV h5 g5 x5 H4
          go_wp2_with (go_at_call 125; refine hN.mono ?_; rintro e w6 ⟨v, rfl, h6⟩)
          go_ret2
          exact ⟨v, rfl, OutR.mk H5.out.1 H5.out.2 h6.out.1 h6.out.2⟩
        · rw [he, if_neg (by omega), if_neg (by omega)]
          go_enter Tryz.func123, Tryz.ntmps123
          go_wp2_with (first | (go_at_call 183; refine hI.mono ?_; rintro e w' ⟨rfl, hw⟩; have hw := hw.symm; subst hw) | (go_at_call 124; refine hS.mono ?_; rintro e w2 ⟨rfl, h2⟩; obtain ⟨U2, g2, B2, x2⟩ := h2.out; have c7 : w2.cell? ⟨d, 7, none⟩ = some B2.cp := cell_of_row w2 d 7 _ _ _ x2.dev; rw [(x2.cel HP.out.2.2.2.1).1] at c7; have H2 : Hid (_) := And.intro g2 x2; clear h2 g2 x2))
          clear hI hS
          have hX := rnext B2.c m g n mx (dodd s).ms.bs false (dodd s).ms w2 H2.out.2.mem (H2.out.2.cel HP.out.2.2.2.1).2.1 (fun _ => rfl) (fun e => by have := H2.out.2.kc.1; rw [e, H2.out.2.km.1] at this; omega) (fun e => by have := H2.out.2.kc.1; rw [e, H2.out.2.kg.1] at this; omega) H2.out.2.n10 H2.out.2.mxl HP.out.2.1
          rw [HP.out.1, he] at hX
          go_wp2_with fail
          refine hX.mono ?_
          rintro e w3 ⟨rfl, o3, m3, k3⟩
          have g3 := H2.out.1.trans (Gr.same o3 H2.out.2.memU)
          rw [hc, hz] at k3
          have x3 := H2.out.2.memd o3 m3 (A' := (dodd s).st ≠ 6) (fun h => ⟨(H2.out.2.cel h).1, k3, hoff⟩)
          have hV := rvleave_any d m g n mx P U2 { dodd s with ms := X.s } 2 w3 ⟨B2, x3⟩ HP.out.2.2.2.1
          have H3 : Hid (_) := And.intro g3 H2.out.2.mxl
          clear hX o3 m3 k3 x3 g3 H2 c7
          go_wp2_with (go_at_call 186; refine hV.mono ?_; rintro e w4 ⟨rfl, h4⟩; obtain ⟨U4, g4, B4, x4⟩ := h4.out; have y19 : w4.cell? ⟨d, 19, none⟩ = some (.int .u32 (0 : Nat)) := cell_of_row w4 d 19 _ _ _ x4.dev; have f19 := x4.fz 19; have H4 : Hid (_) := And.intro g4 x4; clear hV h4 g4 x4)
          have x4 := H4.out.2
          have e5 : (w4.setCell ⟨d, 19, none⟩ (.int .u32 (X.v : Nat))).heap[d]? = some (.cells (RDC P m mx B4.cp B4.lv B4.vv { dleave { dodd s with ms := X.s } 2 with ss := X.v } B4.av) 128 (0, 0)) := heap_setCell_same _ _ _ _ _ _ x4.dev
          have o5 := Off.setCell d 19 w4 (.int .u32 (X.v : Nat))
          have x5 := x4.own (A' := ({ dleave { dodd s with ms := X.s } 2 with ss := X.v } : Sd).st ≠ 6) (s' := { dleave { dodd s with ms := X.s } 2 with ss := X.v }) o5 e5 rfl ⟨rfl, rfl⟩ rfl rfl x4.vok x4.dcl id
          have hN := roffer_any d m g n mx P U4 _ _ ⟨B4, x5⟩ (by show X.v < _; have := (HP.out.2.2.2.2.1 he); have := H3.out.2; omega)
          have H5 : Hid (_) := And.intro ((H3.out.1.trans H4.out.1).trans (Gr.same o5 (by simp [x4.kd.2]))) x5
          clear x4 H3 H4 o5 x5 e5
          go_wp2_with (go_at_call 184; refine hN.mono ?_; rintro e w6 ⟨v, rfl, h6⟩)
          go_ret2
          exact ⟨v, rfl, OutR.mk H5.out.1 ⟨B4, H5.out.2⟩ h6.out.1 h6.out.2⟩
  · have hb' : dbusy s = false := by simpa using hb
    rw [show decide (s.st = 2 ∨ s.st = 3 ∨ s.st = 4) = false from hb'] at hI
    have hds : dodd s = s := by unfold dodd; rw [if_neg hb]
    have hn2 : ¬ (s.st = 2 ∨ s.st = 3 ∨ s.st = 4) := by unfold dbusy at hb; simpa using hb
    have hw : dwish P mx n s = dbegin P mx n (dodd s) := by unfold dwish; rw [if_neg (by rw [hds]; omega), if_neg (by rw [hds]; omega)]
    rw [hw]
    obtain ⟨B0, y0⟩ := HH.out.1
    have F0 : 10 ≤ n ∧ s.ms.off = false ∧ 0 ≤ s.ms.l ∧ mx < 4294967296 := ⟨y0.n10, (y0.cel HH.out.2.1).2.2, y0.mem.l0, y0.mxl⟩
    clear y0
    have hms := dodd_ms s
    have hv := nx_live (mx := mx) (n := n) (s := (dodd s).ms) F0.1 (by rw [hms]; exact F0.2.1) (by rw [hms]; exact F0.2.2.1)
    have ht1 : (dodd s).ms.t < 9223372036854774000 := by rw [hms]; exact HH.out.2.2.2.1
    have hL1 : (dodd s).L.length < 900000 := by have := dodd_len s; have := HH.out.2.2.1; omega
    have hup := dodd_up HH.out.2.1
    have hvz := nx_vz (mx := mx) (n := n) (s := (dodd s).ms) F0.1 (by rw [hms]; exact F0.2.1) (by rw [hms]; exact F0.2.2.1) F0.2.2.2
    unfold dbegin
    obtain ⟨X, hX0⟩ : ∃ X, nx mx n (dodd s).ms.bs false (dodd s).ms = X := ⟨_, rfl⟩
    rw [hX0] at hv hvz ⊢
    have HP : Hid (_) := And.intro hX0 (And.intro ht1 (And.intro hL1 (And.intro hup hvz)))
    clear hX0 ht1 hL1 hup hvz hms hw F0
    clear hb hb' hn2 ho hS
    rcases hv with he | ⟨he, hc, hz, hoff⟩
    · rw [he, if_neg (by omega), if_pos (by omega)]
      obtain ⟨B2, y2⟩ := HH.out.1
      have x2 : RB w d m g n mx P U (dodd s) B2 ((dodd s).st ≠ 6) := by rw [hds]; exact y2
      have c7 : w.cell? ⟨d, 7, none⟩ = some B2.cp := cell_of_row w d 7 _ _ _ x2.dev
      rw [(x2.cel HP.out.2.2.2.1).1] at c7
      have H2 : Hid (_) := And.intro (Gr.refl U w) x2
      clear x2 y2
      go_enter Tryz.func123, Tryz.ntmps123
      go_wp2_with (go_at_call 183; refine hI.mono ?_; rintro e w' ⟨rfl, hw⟩; have hw := hw.symm; subst hw)
      have hX := rnext B2.c m g n mx (dodd s).ms.bs false (dodd s).ms w H2.out.2.mem (H2.out.2.cel HP.out.2.2.2.1).2.1 (fun _ => rfl) (fun e => by have := H2.out.2.kc.1; rw [e, H2.out.2.km.1] at this; omega) (fun e => by have := H2.out.2.kc.1; rw [e, H2.out.2.kg.1] at this; omega) H2.out.2.n10 H2.out.2.mxl HP.out.2.1
      rw [HP.out.1, he] at hX
      go_wp2_with fail
      refine hX.mono ?_
      rintro e w3 ⟨rfl, o3, m3, k3⟩
      have g3 := H2.out.1.trans (Gr.same o3 H2.out.2.memU)
      have x3 := H2.out.2.memd o3 m3 (A' := False) (fun h => h.elim)
      have hD := rlife_any d m g n mx P U _ B2 False 6 w3 x3
      have H3 : Hid (_) := g3
      clear hX o3 m3 k3 x3 g3 H2 c7
      go_wp2_with (go_at_call 55; refine hD.mono ?_; rintro e w4 ⟨rfl, h4⟩)
      go_ret2
      obtain ⟨U4, B4, g4, x4⟩ := h4.out
      exact ⟨_, rfl, OutR.none_ (H3.out.trans g4) ⟨B4, { x4 with cel := fun hs => absurd rfl hs }⟩⟩
    · rcases he with he | he
      · rw [he, if_pos rfl]
        obtain ⟨B2, y2⟩ := HH.out.1
        have x2 : RB w d m g n mx P U (dodd s) B2 ((dodd s).st ≠ 6) := by rw [hds]; exact y2
        have c7 : w.cell? ⟨d, 7, none⟩ = some B2.cp := cell_of_row w d 7 _ _ _ x2.dev
        rw [(x2.cel HP.out.2.2.2.1).1] at c7
        have H2 : Hid (_) := And.intro (Gr.refl U w) x2
        clear x2 y2
        go_enter Tryz.func123, Tryz.ntmps123
        go_wp2_with (go_at_call 183; refine hI.mono ?_; rintro e w' ⟨rfl, hw⟩; have hw := hw.symm; subst hw)
        have hX := rnext B2.c m g n mx (dodd s).ms.bs false (dodd s).ms w H2.out.2.mem (H2.out.2.cel HP.out.2.2.2.1).2.1 (fun _ => rfl) (fun e => by have := H2.out.2.kc.1; rw [e, H2.out.2.km.1] at this; omega) (fun e => by have := H2.out.2.kc.1; rw [e, H2.out.2.kg.1] at this; omega) H2.out.2.n10 H2.out.2.mxl HP.out.2.1
        rw [HP.out.1, he] at hX
        go_wp2_with fail
        refine hX.mono ?_
        rintro e w3 ⟨rfl, o3, m3, k3⟩
        have g3 := H2.out.1.trans (Gr.same o3 H2.out.2.memU)
        rw [hc, hz] at k3
        have x3 := H2.out.2.memd o3 m3 (A' := (dodd s).st ≠ 6) (fun h => ⟨(H2.out.2.cel h).1, k3, hoff⟩)
        have hT := rvlatch_any d m g n mx P U { dodd s with ms := X.s } 80 w3 ⟨B2, x3⟩ (by omega) HP.out.2.2.1
        have H3 : Hid (_) := g3
        clear hX o3 m3 k3 x3 g3 H2 c7
        go_wp2_with (go_at_call 130; refine hT.mono ?_; rintro e w4 ⟨rfl, h4⟩)
        obtain ⟨U4, g4, x4⟩ := h4.out
        have hV := rvleave_any d m g n mx P U4 _ 5 w4 x4 (by rw [dlatch_st]; exact HP.out.2.2.2.1)
        have H4 : Hid (_) := H3.out.trans g4
        clear hT h4 g4 x4 H3
        go_wp2_with (go_at_call 186; refine hV.mono ?_; rintro e w5 ⟨rfl, h5⟩)
        obtain ⟨U5, g5, x5⟩ := h5.out
        have hN := rnone_any d m g n mx P U5 _ w5 x5 (by show (0 : Nat) < _; omega)
        have H5 : Hid (_) := And.intro (H4.out.trans g5) x5
        clear hV h5 g5 x5 H4
        go_wp2_with (go_at_call 125; refine hN.mono ?_; rintro e w6 ⟨v, rfl, h6⟩)
        go_ret2
        exact ⟨v, rfl, OutR.mk H5.out.1 H5.out.2 h6.out.1 h6.out.2⟩
      · rw [he, if_neg (by omega), if_neg (by omega)]
        obtain ⟨B2, y2⟩ := HH.out.1
        have x2 : RB w d m g n mx P U (dodd s) B2 ((dodd s).st ≠ 6) := by rw [hds]; exact y2
        have c7 : w.cell? ⟨d, 7, none⟩ = some B2.cp := cell_of_row w d 7 _ _ _ x2.dev
        rw [(x2.cel HP.out.2.2.2.1).1] at c7
        have H2 : Hid (_) := And.intro (Gr.refl U w) x2
        clear x2 y2
        go_enter Tryz.func123, Tryz.ntmps123
        go_wp2_with (go_at_call 183; refine hI.mono ?_; rintro e w' ⟨rfl, hw⟩; have hw := hw.symm; subst hw)
        have hX := rnext B2.c m g n mx (dodd s).ms.bs false (dodd s).ms w H2.out.2.mem (H2.out.2.cel HP.out.2.2.2.1).2.1 (fun _ => rfl) (fun e => by have := H2.out.2.kc.1; rw [e, H2.out.2.km.1] at this; omega) (fun e => by have := H2.out.2.kc.1; rw [e, H2.out.2.kg.1] at this; omega) H2.out.2.n10 H2.out.2.mxl HP.out.2.1
        rw [HP.out.1, he] at hX
        go_wp2_with fail
        refine hX.mono ?_
        rintro e w3 ⟨rfl, o3, m3, k3⟩
        have g3 := H2.out.1.trans (Gr.same o3 H2.out.2.memU)
        rw [hc, hz] at k3
        have x3 := H2.out.2.memd o3 m3 (A' := (dodd s).st ≠ 6) (fun h => ⟨(H2.out.2.cel h).1, k3, hoff⟩)
        have hV := rvleave_any d m g n mx P U { dodd s with ms := X.s } 2 w3 ⟨B2, x3⟩ HP.out.2.2.2.1
        have H3 : Hid (_) := And.intro g3 H2.out.2.mxl
        clear hX o3 m3 k3 x3 g3 H2 c7
        go_wp2_with (go_at_call 186; refine hV.mono ?_; rintro e w4 ⟨rfl, h4⟩; obtain ⟨U4, g4, B4, x4⟩ := h4.out; have y19 : w4.cell? ⟨d, 19, none⟩ = some (.int .u32 (0 : Nat)) := cell_of_row w4 d 19 _ _ _ x4.dev; have f19 := x4.fz 19; have H4 : Hid (_) := And.intro g4 x4; clear hV h4 g4 x4)
        have x4 := H4.out.2
        have e5 : (w4.setCell ⟨d, 19, none⟩ (.int .u32 (X.v : Nat))).heap[d]? = some (.cells (RDC P m mx B4.cp B4.lv B4.vv { dleave { dodd s with ms := X.s } 2 with ss := X.v } B4.av) 128 (0, 0)) := heap_setCell_same _ _ _ _ _ _ x4.dev
        have o5 := Off.setCell d 19 w4 (.int .u32 (X.v : Nat))
        have x5 := x4.own (A' := ({ dleave { dodd s with ms := X.s } 2 with ss := X.v } : Sd).st ≠ 6) (s' := { dleave { dodd s with ms := X.s } 2 with ss := X.v }) o5 e5 rfl ⟨rfl, rfl⟩ rfl rfl x4.vok x4.dcl id
        have hN := roffer_any d m g n mx P U4 _ _ ⟨B4, x5⟩ (by show X.v < _; have := (HP.out.2.2.2.2.1 he); have := H3.out.2; omega)
        have H5 : Hid (_) := And.intro ((H3.out.1.trans H4.out.1).trans (Gr.same o5 (by simp [x4.kd.2]))) x5
        clear x4 H3 H4 o5 x5 e5
        go_wp2_with (go_at_call 184; refine hN.mono ?_; rintro e w6 ⟨v, rfl, h6⟩)
        go_ret2
        exact ⟨v, rfl, OutR.mk H5.out.1 ⟨B4, H5.out.2⟩ h6.out.1 h6.out.2⟩
end Go.Proofs.YtndjepeolamedaaGreat
namespace Go.Proofs.YtndjepeolamedaaGreat
set_option maxRecDepth 100000
open Go.RowKit
theorem OutR.pre {U U1 : List Nat} {w w1 w2 : World} {d m g n mx : Nat} {P : Pm} {s : Sd} {f : Fm} {v : Value} (h : Gr U w U1 w1) (x : OutR U1 w1 w2 d m g n mx P s f v) : OutR U w w2 d m g n mx P s f v := by
  obtain ⟨U', g2, x2, f2, k2⟩ := x
  exact ⟨U', h.trans g2, x2, own_base f2 h.off.size, k2⟩
theorem OutR.next {U U1 U2 : List Nat} {w w1 w2 : World} {d m g n mx : Nat} {P : Pm} {s : Sd} {f : Fm} {v : Value} (g1 : Gr U w U1 w1) (hf : Fr w1 w.heap.size v f) (hk : ∀ k, v.ownBlock = some k → k ∉ U1) (g2 : Gr U1 w1 U2 w2) (x2 : RW w2 d m g n mx P U2 s) : OutR U w w2 d m g n mx P s f v :=
  ⟨U2, g1.trans g2, x2, own_offk hf g2.off hk, fun k e => g2.out (hf.lt k e) (hk k e)⟩
set_option maxHeartbeats 3200000 in
theorem rvtick_any (d m g n mx : Nat) (P : Pm) (U : List Nat) (s : Sd) (k : Int) (w : World) (h : RW w d m g n mx P U s) (hk : k ≤ 9223372036854775807) (hL : s.L.length < 800000) :
    Calls Tryz.prog 68 #[.pointer (some ⟨d, 0, none⟩), .int .i64 k] w fun e w' => e = .returned (.int .i64 (dtickE s k)) ∧ Hid (∃ U', Gr U w U' w' ∧ RW w' d m g n mx P U' (dtickS P s k)) := by
  obtain ⟨B, x⟩ := id h
  have c18 : w.cell? ⟨d, 18, none⟩ = some (.int .i64 (s.st : Nat)) := cell_of_row w d 18 _ _ _ x.dev
  unfold dtickE dtickS
  by_cases h6 : s.st = 6
  · rw [if_pos h6, if_pos h6]
    rw [h6] at c18
    have H : Hid (_) := h
    clear h x h6
    go_enter Tryz.func68, Tryz.ntmps68
    go_wp2_with fail
    go_ret
    exact ⟨rfl, U, Gr.refl _ _, H.out⟩
  · rw [if_neg h6, if_neg h6]
    have e6 : ((s.st : Int) == 6) = false := by simp; omega
    by_cases hn : k < 0
    · rw [if_pos hn, if_pos hn]
      have H : Hid (_) := h
      clear h x h6
      go_enter Tryz.func68, Tryz.ntmps68
      go_wp2_with fail
      go_ret
      exact ⟨rfl, U, Gr.refl _ _, H.out⟩
    · rw [if_neg hn, if_neg hn]
      obtain ⟨j, rfl⟩ : ∃ j : Nat, k = (j : Int) := ⟨k.toNat, by omega⟩
      rw [show (j : Int).toNat = j from rfl]
      have qT := rticksv_any d m g n mx P U s B _ j w x (by omega)
      have HL : Hid (_) := hL
      clear h x h6 hn hk hL
      cases ht : told P.t s.dc j
      · rw [if_neg (by simp)]
        rw [ht] at qT
        go_enter Tryz.func68, Tryz.ntmps68
        go_wp2_with (go_at_call 136; refine qT.mono ?_; rintro e w2 ⟨rfl, h2⟩)
        go_ret
        obtain ⟨g2, B2, x2⟩ := h2.out
        exact ⟨rfl, U, g2, B2, x2⟩
      · rw [if_pos rfl]
        rw [ht] at qT
        go_enter Tryz.func68, Tryz.ntmps68
        go_wp2_with (go_at_call 136; refine qT.mono ?_; rintro e w2 ⟨rfl, h2⟩)
        obtain ⟨g2, B2, x2⟩ := h2.out
        have H2 : Hid (_) := g2
        have hT := rvlatch_any d m g n mx P U { s with dc := tk P.t s.dc j } 100 w2 ⟨B2, x2⟩ (by omega) (by have := HL.out; show s.L.length < 900000; omega)
        clear qT h2 g2 x2
        go_wp2_with (go_at_call 130; refine hT.mono ?_; rintro e w3 ⟨rfl, h3⟩)
        go_ret
        obtain ⟨U3, g3, x3⟩ := h3.out
        exact ⟨rfl, U3, H2.out.trans g3, x3⟩
set_option maxHeartbeats 3200000 in
theorem rvack_any (d m g n mx : Nat) (P : Pm) (U : List Nat) (s : Sd) (w : World) (h : RW w d m g n mx P U s) :
    Calls Tryz.prog 70 #[.pointer (some ⟨d, 0, none⟩)] w fun e w' => e = .returned (.int .i64 (dackE s)) ∧ Hid (∃ U', Gr U w U' w' ∧ RW w' d m g n mx P U' (dackS s)) := by
  obtain ⟨B, x⟩ := id h
  have c18 : w.cell? ⟨d, 18, none⟩ = some (.int .i64 (s.st : Nat)) := cell_of_row w d 18 _ _ _ x.dev
  unfold dackE dackS
  by_cases h6 : s.st = 6
  · rw [if_pos h6, if_pos h6]
    rw [h6] at c18
    have H : Hid (_) := h
    clear h x h6
    go_enter Tryz.func70, Tryz.ntmps70
    go_wp2_with fail
    go_ret
    exact ⟨rfl, U, Gr.refl _ _, H.out⟩
  · rw [if_neg h6, if_neg h6]
    have e6 : ((s.st : Int) == 6) = false := by simp; omega
    have qA := rackv_any d m g n mx P U s B _ w x
    clear h x h6
    unfold vackE
    by_cases hr : vreq s.v = true
    · rw [if_pos hr]
      rw [hr] at qA
      go_enter Tryz.func70, Tryz.ntmps70
      go_wp2_with (go_at_call 138; refine qA.mono ?_; rintro e w2 ⟨rfl, h2⟩)
      go_ret
      obtain ⟨g2, B2, x2⟩ := h2.out
      exact ⟨rfl, U, g2, B2, x2⟩
    · have hr' : vreq s.v = false := by simpa using hr
      rw [if_neg hr]
      rw [hr'] at qA
      go_enter Tryz.func70, Tryz.ntmps70
      go_wp2_with (go_at_call 138; refine qA.mono ?_; rintro e w2 ⟨rfl, h2⟩)
      go_ret
      obtain ⟨g2, B2, x2⟩ := h2.out
      exact ⟨rfl, U, g2, B2, x2⟩
end Go.Proofs.YtndjepeolamedaaGreat
