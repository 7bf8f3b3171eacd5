/- Layer 20: the walk of ScriptBack. (genlsba.py) -/
import Derived.Test.YtnmnjcjfgbpkaaaDoorJLawSFo
import Derived.Test.YtnmnjcjfgbpkaaaDoorJSqd
namespace Go.Proofs.YtnmnjcjfgbpkaaaDoor
set_option maxRecDepth 100000
open Go.RowKit Go.Maps
set_option maxRecDepth 100000
set_option linter.unusedVariables false
/-- What its kind doesn't use says nothing in its line. -/
theorem Mv.bare_ws (m : Mv) : m.bare.ws = m.ws := by
  unfold Mv.ws Mv.w1 Mv.w2 Mv.w3 Mv.w4 Mv.ns
  have k : m.bare.k = m.k := rfl
  have c : m.bare.c = m.c := rfl
  rw [k, c]
  congr 1
  · congr 1
    · congr 1
      cases e : sided m.k with
      | true =>
        have : m.bare.s = m.s := by simp [Mv.bare, e]
        rw [this]
      | false => rfl
    · by_cases e : m.k = 1
      · have h1 : m.bare.l = m.l := by simp [Mv.bare, e]
        have h2 : m.bare.b = m.b := by simp [Mv.bare, e]
        have h3 : m.bare.h = m.h := by simp [Mv.bare, e]
        rw [h1, h2, h3]
      · rw [if_neg e, if_neg e]
  · congr 1
    by_cases e3 : m.k = 3
    · rw [if_pos e3, if_pos e3]
      simp [Mv.bare, e3]
    · rw [if_neg e3, if_neg e3]
      by_cases e4 : m.k = 4
      · rw [if_pos e4, if_pos e4]
        simp [Mv.bare, e4]
      · rw [if_neg e4, if_neg e4]
        by_cases e5 : m.k = 5 ∨ m.k = 7 ∨ m.k = 8
        · rw [if_pos e5, if_pos e5]
          simp [Mv.bare, e5]
        · rw [if_neg e5, if_neg e5]
theorem Mv.bare_ns (m : Mv) : m.bare.ns = m.ns := by
  unfold Mv.ns
  have k : m.bare.k = m.k := rfl
  rw [k]
  by_cases e3 : m.k = 3
  · rw [if_pos e3, if_pos e3]
    simp [Mv.bare, e3]
  · rw [if_neg e3, if_neg e3]
    by_cases e4 : m.k = 4
    · rw [if_pos e4, if_pos e4]
      simp [Mv.bare, e4]
    · rw [if_neg e4, if_neg e4]
      by_cases e5 : m.k = 5 ∨ m.k = 7 ∨ m.k = 8
      · rw [if_pos e5, if_pos e5]
        simp [Mv.bare, e5]
      · rw [if_neg e5, if_neg e5]
theorem Mv.bare_err {m : Mv} (h : m.err = 0) : m.bare.err = 0 := by
  obtain ⟨h1, h2, h3, h4, h5, h6⟩ := Mv.err0 h
  unfold Mv.err
  have k : m.bare.k = m.k := rfl
  have c : m.bare.c = m.c := rfl
  rw [Mv.bare_ns, k, c, h1, h2, if_neg (by simp), if_neg ?_, if_neg ?_, if_neg (by omega)]
  · rintro ⟨e, q⟩
    have : m.bare.l = m.l := by simp [Mv.bare, e]
    have := h4 e
    omega
  · rintro ⟨e, q1, q2⟩
    have : m.bare.s = m.s := by simp [Mv.bare, e]
    have := h3 e
    omega
theorem Mv.bare_same (m : Mv) : m.bare.same m.bare.bare := by
  unfold Mv.same Mv.bare
  refine ⟨rfl, rfl, ?_, ?_, ?_, ?_, ?_, ?_, ?_, ?_⟩
  all_goals simp only
  all_goals first | (split <;> rfl) | (intro j hj; split <;> rfl)
theorem Mv.bare_fine {m : Mv} (h : m.fine) : m.bare.fine := by
  refine ⟨Mv.bare_err h.1, ?_, fun j hj => ?_⟩
  · by_cases e : m.k = 4
    · have : m.bare.w = m.w := by simp [Mv.bare, e]
      rw [this]
      exact h.2.1
    · have : m.bare.w = 0 := by simp [Mv.bare, e]
      omega
  · by_cases e : m.k = 1
    · have h1 : m.bare.l = m.l := by simp [Mv.bare, e]
      have h2 : m.bare.b = m.b := by simp [Mv.bare, e]
      rw [h2]
      exact h.2.2 j (by omega)
    · have h1 : m.bare.l = 0 := by simp [Mv.bare, e]
      omega
theorem movT_bare (M : Nat → Mv) : ∀ n, movT (fun i => (M i).bare) n = movT M n
  | 0 => rfl
  | n + 1 => by
    have : (M n).bare.line = (M n).line := by
      unfold Mv.line
      rw [Mv.bare_ws]
    rw [movT, movT, movT_bare M n, this]
theorem prE_nz {ms : Nat} {P0 : Nat → Ps} {l0 : Nat} {P1 : Nat → Ps} {l1 : Nat} {M : Nat → Mv} {n : Nat} (h : prE ms P0 l0 P1 l1 M n ≠ 0) : prS ms P0 l0 P1 l1 M n = ByteArray.mk #[] := by
  unfold prS
  rw [if_neg]
  rintro ⟨h1, h2, h3⟩
  unfold prE at h
  rw [if_pos h1, h2] at h
  simp only at h
  rw [if_pos h3] at h
  exact h rfl
theorem badM_err {M : Nat → Mv} {k : Nat} : ∀ {n : Nat}, badM M n = some k → (M k).err ≠ 0
  | 0, h => by simp [badM] at h
  | n + 1, h => by
    simp only [badM] at h
    split at h
    · next e =>
      cases h
      exact badM_err e
    · split at h
      · cases h
      · next e =>
        cases h
        exact e
theorem prE_z {ms : Nat} {P0 : Nat → Ps} {l0 : Nat} {P1 : Nat → Ps} {l1 : Nat} {M : Nat → Mv} {n : Nat} (h : prE ms P0 l0 P1 l1 M n = 0) : (allLaw P0 l0 && allLaw P1 l1) = true ∧ badM M n = none ∧ (fullT ms P0 l0 P1 l1 M n).length ≤ 262144 := by
  unfold prE at h
  split at h
  · next h1 =>
    refine ⟨h1, ?_⟩
    split at h
    · next k e => exact absurd h (badM_err e)
    · next e =>
      split at h
      · next e2 => exact ⟨e, e2⟩
      · cases h
  · cases h
theorem badM_all {M : Nat → Mv} : ∀ {n : Nat}, badM M n = none → ∀ i, i < n → (M i).err = 0
  | 0, _, i, hi => by omega
  | n + 1, h, i, hi => by
    simp only [badM] at h
    split at h
    · cases h
    · next e =>
      split at h
      · next e2 =>
        by_cases q : i = n
        · rw [q]
          exact e2
        · exact badM_all e i (by omega)
      · cases h
/-- What Bare leaves, of any move that has a line. -/
theorem pbare (m : Mv) (hE : m.err = 0) (d : Option Addr) (e : Nat) (w : World) (hr : Row8 w d m.l e m.b) : Calls Tryd.prog 16 #[.agg (m.cs d e)] w (BaP m.bare w) := by
  obtain ⟨_, _, _, h4, h5, h6⟩ := Mv.err0 hE
  obtain ⟨k, c, s, f, a, v, n, h, l, b⟩ := m
  simp only at *
  obtain rfl | rfl | rfl | rfl | rfl | rfl | rfl | rfl : k = 1 ∨ k = 2 ∨ k = 3 ∨ k = 4 ∨ k = 5 ∨ k = 6 ∨ k = 7 ∨ k = 8 := by omega
  · exact pbare_1 c s f a n v h l b d e w hr (by have := h4 rfl; omega)
  · exact pbare_2 c s f a n v h l b d e w hr
  · exact pbare_3 c s f a n v h l b d e w hr
  · exact pbare_4 c s f a n v h l b d e w hr
  · exact pbare_5 c s f a n v h l b d e w hr
  · exact pbare_6 c s f a n v h l b d e w hr
  · exact pbare_7 c s f a n v h l b d e w hr
  · exact pbare_8 c s f a n v h l b d e w hr
theorem PaP.backB {T : List UInt8} {ms : Nat} {P0 : Nat → Ps} {l0 : Nat} {P1 : Nat → Ps} {l1 : Nat} {M : Nat → Mv} {n : Nat} {w : World} {f : FuncId} {args : Array Value} (hb : psBad T = (0, 0)) (g : Got ms P0 l0 P1 l1 M n (psSn T)) (h : Calls Tryd.prog f args w (PaP (psSn T) (psBad T).1 (psBad T).2 w)) : Calls Tryd.prog f args w fun r w' => ∃ a0 c0 a1 c1 al cl D, r = .returned (.tuple #[.agg #[.slice a0 l0 c0, .slice a1 l1 c1, .int .u32 (ms : Nat)], .slice al n cl, .int .i64 0, .int .i64 0]) ∧ Hid (PRow w' a0 l0 P0 ∧ PRow w' a1 l1 P1 ∧ MvRow w' al n (fun i => (M i).bare) D ∧ Below w.heap.size w w') := by
  refine h.mono ?_
  rintro r w' ⟨a0, c0, a1, c1, al, cl, D, rfl, H⟩
  rw [hb]
  obtain ⟨h0, h1, h2, h3⟩ := H.out
  rw [g.l0] at h0 ⊢
  rw [g.l1] at h1 ⊢
  rw [g.cnt] at h2 ⊢
  rw [g.ms]
  exact ⟨a0, c0, a1, c1, al, cl, D, rfl, h0.to g.p0, h1.to g.p1, h2.to g.mvs, h3⟩
set_option maxHeartbeats 8000000 in
theorem scriptBack_any (a0 : Option Addr) (l0 c0 : Nat) (P0 : Nat → Ps) (a1 : Option Addr) (l1 c1 : Nat) (P1 : Nat → Ps) (ms : Nat) (am : Option Addr) (n cm : Nat) (M : Nat → Mv) (D : Nat → Md) (mx : Int) (w : World) (hmx : w.cell? ⟨1, 0, none⟩ = some (.int .i64 mx)) (h0 : PRow w a0 l0 P0) (h1 : PRow w a1 l1 P1) (hM : MvRow w am n M D) (z0 : a0 = none → l0 = 0 ∧ c0 = 0) (z1 : a1 = none → l1 = 0 ∧ c1 = 0) (ok0 : ∀ i, i < l0 → (P0 i).Ok) (ok1 : ∀ i, i < l1 → (P1 i).Ok) (okM : ∀ i, i < n → (M i).Ok ∧ (M i).l ≤ 140737488355328) (hms : ms < 4294967296) (L : Lw w) :
    Calls Tryd.prog 4 #[.agg #[.slice a0 l0 c0, .slice a1 l1 c1, .int .u32 (ms : Nat)], .slice am n cm] w fun r w' => r = .returned (.bool true) ∧ Below w.heap.size w w' := by
  have kb := Bk.new w #[.slice a0 l0 c0, .slice a1 l1 c1, .int .u32 (ms : Nat)] 26
  have bb := belA (Below.refl _ w) (.cells #[.slice a0 l0 c0, .slice a1 l1 c1, .int .u32 (ms : Nat)] 26)
  obtain ⟨W, hW⟩ : ∃ y, w.alloc (.cells #[.slice a0 l0 c0, .slice a1 l1 c1, .int .u32 (ms : Nat)] 26) = y := ⟨_, rfl⟩
  rw [hW] at kb bb
  have cel : Hid (∀ wx, Below W.heap.size W wx → Bk wx w.heap.size #[.slice a0 l0 c0, .slice a1 l1 c1, .int .u32 (ms : Nat)] 26 ∧ PRow wx a0 l0 P0 ∧ PRow wx a1 l1 P1 ∧ MvRow wx am n M D ∧ Lw wx ∧ Below w.heap.size w wx ∧ wx.cell? ⟨1, 0, none⟩ = some (.int .i64 mx)) := fun wx bx => by
    have b2 : Below w.heap.size w wx := bb.trans (bx.mono bb.size)
    exact ⟨kb.off (Off.of_below (l := []) bx) (by simp), h0.below b2, h1.below b2, hM.below b2, L.below b2, b2, cellB hmx b2⟩
  have ha := awake20 W (L.below bb)
  have HW : Hid (_) := And.intro ok0 (And.intro ok1 (And.intro okM (And.intro z0 z1)))
  have byM : ∀ i, i < n → ∀ j, j < (M i).l → (M i).b j < 256 := fun i hi j hj => by
    obtain ⟨_, _, _, _, R⟩ := hM i hi
    exact R.byte j hj
  have HY : Hid (_) := byM
  clear kb bb h0 h1 hM ok0 ok1 okM L z0 z1 hmx byM
  by_cases hg : l0 ≤ 100 ∧ l1 ≤ 100 ∧ n ≤ 300
  rotate_left
  · have three : (100 : Int) < ((l0 : Nat) : Int) ∨ (¬ (100 : Int) < ((l0 : Nat) : Int) ∧ (100 : Int) < ((l1 : Nat) : Int)) ∨ (¬ (100 : Int) < ((l0 : Nat) : Int) ∧ ¬ (100 : Int) < ((l1 : Nat) : Int) ∧ (300 : Int) < ((n : Nat) : Int)) := by omega
    clear hg
    rcases three with q1 | ⟨q1, q2⟩ | ⟨q1, q2, q3⟩
    all_goals
      go_enter Tryd.func4, Tryd.ntmps4
      go_wp2_with fail
      try rw [hW]
      clear hW
      refine ha.mono ?_
      rintro r w1 ⟨rfl, b1⟩
      have k1 := (cel.out w1 b1).1
      have m0 : w1.cell? ⟨w.heap.size, 0, none⟩ = some (.slice a0 l0 c0) := k1.cell 0
      have m1 : w1.cell? ⟨w.heap.size, 1, none⟩ = some (.slice a1 l1 c1) := k1.cell 1
      have HB : Hid (Below w.heap.size w w1) := (cel.out w1 b1).2.2.2.2.2.1
      clear ha k1 b1
      go_wp2_with fail
      go_ret
      exact ⟨rfl, HB.out⟩
  have q1 : ¬ (100 : Int) < ((l0 : Nat) : Int) := by omega
  have q2 : ¬ (100 : Int) < ((l1 : Nat) : Int) := by omega
  have q3 : ¬ (300 : Int) < ((n : Nat) : Int) := by omega
  have HG : Hid (_) := hg
  clear hg
  go_enter Tryd.func4, Tryd.ntmps4
  go_wp2_with fail
  try rw [hW]
  clear hW
  refine ha.mono ?_
  rintro r w1 ⟨rfl, b1⟩
  have H1 : Hid (Below W.heap.size W w1) := b1
  have k1 := (cel.out w1 b1).1
  have m0 : w1.cell? ⟨w.heap.size, 0, none⟩ = some (.slice a0 l0 c0) := k1.cell 0
  have m1 : w1.cell? ⟨w.heap.size, 1, none⟩ = some (.slice a1 l1 c1) := k1.cell 1
  have m2 : w1.cell? ⟨w.heap.size, 2, none⟩ = some (.int .u32 (ms : Nat)) := k1.cell 2
  have hC := ncopied a0 l0 c0 P0 a1 l1 c1 P1 ms w1 (cel.out w1 b1).2.1 (cel.out w1 b1).2.2.1 ⟨by have := HG.out; omega, HW.out.2.2.2.1⟩ ⟨by have := HG.out; omega, HW.out.2.2.2.2⟩
  clear ha k1 b1
  go_wp2_with fail
  refine hC.mono ?_
  rintro r w2 ⟨y0, k0, y1, k1, rfl, p0, p1, b2⟩
  have H2 : Hid (Below W.heap.size W w2) := H1.out.trans (b2.mono H1.out.size)
  have HPp : Hid (PRow w2 y0 l0 P0 ∧ PRow w2 y1 l1 P1) := ⟨p0, p1⟩
  have hD := pcopies am n cm M D w2 (cel.out w2 H2.out).2.2.2.1 (fun i hi => (HW.out.2.2.1 i hi).2) (by have := HG.out; omega)
  clear hC b2 p0 p1 m0 m1 m2 q1 q2 q3
  go_wp2_with fail
  refine hD.mono ?_
  rintro r w3 ⟨ac, cc, D', rfl, h3⟩
  have H3 : Hid (Below W.heap.size W w3) := H2.out.trans (h3.out.2.mono H2.out.size)
  have hP := pprint y0 l0 k0 P0 y1 l1 k1 P1 ms ac n cc M D' w3 (HPp.out.1.below h3.out.2).psrow (HPp.out.2.below h3.out.2).psrow h3.out.1 HW.out.1 HW.out.2.1 HW.out.2.2.1 hms (by have := HG.out; omega) (by have := HG.out; omega) (by have := HG.out; omega) (cel.out w3 H3.out).2.2.2.2.1.k
  clear hD h3 HPp
  by_cases hz : prE ms P0 l0 P1 l1 M n = 0
  rotate_left
  · rw [prE_nz hz] at hP
    obtain ⟨E, hE⟩ : ∃ y, prE ms P0 l0 P1 l1 M n = y := ⟨_, rfl⟩
    rw [hE] at hP hz
    have qe : (E != 0) = true := by simpa using hz
    clear hE hz
    go_wp2_with fail
    refine hP.mono ?_
    rintro r w4 ⟨rfl, b4⟩
    have HB : Hid (Below w.heap.size w w4) := (cel.out w4 (H3.out.trans (b4.mono H3.out.size))).2.2.2.2.2.1
    clear hP b4
    go_wp2_with fail
    go_ret
    exact ⟨by first | rfl | simp, HB.out⟩
  obtain ⟨hlw, hbm, hfl⟩ := prE_z hz
  obtain ⟨g1, g2⟩ := pr_good (ms := ms) (M := M) (n := n) hlw hbm hfl
  rw [g1, g2] at hP
  rw [Bool.and_eq_true] at hlw
  have hfi : ∀ i, i < n → (M i).fine := fun i hi => ⟨badM_all hbm i hi, (HW.out.2.2.1 i hi).1.w, HY.out i hi⟩
  have bk := back (M := M) (n := n) hms (fun i hi => And.intro (HW.out.1 i hi) (allLaw_all hlw.1 i hi)) (fun i hi => And.intro (HW.out.2.1 i hi) (allLaw_all hlw.2 i hi)) hfi hfl
  have eT : fullT ms P0 l0 P1 l1 (fun i => (M i).bare) n = fullT ms P0 l0 P1 l1 M n := by
    unfold fullT
    rw [movT_bare]
  have hbm2 : badM (fun i => (M i).bare) n = none := badM_none (fun i hi => (Mv.bare_fine (hfi i hi)).1)
  have g3 := pr_good (ms := ms) (M := fun i => (M i).bare) (n := n) (by rw [Bool.and_eq_true]; exact hlw) hbm2 (by rw [eT]; exact hfl)
  rw [eT] at g3
  have hp2 : ∀ wx, Below W.heap.size W wx → _ := fun wx p => PaP.backB bk.1 bk.2 (pparse (fullT ms P0 l0 P1 l1 M n) hfl wx (cel.out wx p).2.2.2.2.1 mx (World.block_lt_of_cell? wx _ (cel.out wx p).2.2.2.2.2.2) (cel.out wx p).2.2.2.2.2.2)
  have hp3 : ∀ (d0 d1 al : Option Addr) (e0 e1 cl : Nat) (E : Nat → Md) (wx : World), Below W.heap.size W wx → PRow wx d0 l0 P0 → PRow wx d1 l1 P1 → MvRow wx al n (fun i => (M i).bare) E → Calls Tryd.prog 12 #[.agg #[.slice d0 l0 e0, .slice d1 l1 e1, .int .u32 (ms : Nat)], .slice al n cl] wx fun r w' => r = .returned (.tuple #[.string (tx (fullT ms P0 l0 P1 l1 M n)), .int .i64 0]) ∧ Below wx.heap.size wx w' := fun d0 d1 al e0 e1 cl E wx p r0 r1 rm => by
    have := pprint d0 l0 e0 P0 d1 l1 e1 P1 ms al n cl (fun i => (M i).bare) E wx r0.psrow r1.psrow rm HW.out.1 HW.out.2.1 (fun i hi => Mv.ok_of (Mv.bare_fine (hfi i hi)) (Mv.bare_same (M i))) hms (by have := HG.out; omega) (by have := HG.out; omega) (by have := HG.out; omega) (cel.out wx p).2.2.2.2.1.k
    rw [g3.1, g3.2] at this
    exact this
  obtain ⟨T, hT⟩ : ∃ y, tx (fullT ms P0 l0 P1 l1 M n) = y := ⟨_, rfl⟩
  rw [hT] at hP hp2 hp3
  have HC : Hid (_) := And.intro hp2 (And.intro hp3 hfi)
  clear hz hlw hbm hfl g1 g2 g3 hfi bk eT hbm2 hp2 hp3 hT
  go_wp2_with fail
  refine hP.mono ?_
  rintro r w4 ⟨rfl, b4⟩
  have H4 : Hid (Below W.heap.size W w4) := H3.out.trans (b4.mono H3.out.size)
  have hR := HC.out.1 w4 H4.out
  clear hP b4
  go_wp2_with fail
  refine hR.mono ?_
  rintro r w5 ⟨d0, e0, d1, e1, al, cl, E, rfl, H5⟩
  clear hR
  have HB5 : Hid (Below W.heap.size W w5 ∧ PRow w5 d0 l0 P0 ∧ PRow w5 d1 l1 P1 ∧ MvRow w5 al n (fun i => (M i).bare) E) := ⟨H4.out.trans (H5.out.2.2.2.mono H4.out.size), H5.out.1, H5.out.2.1, H5.out.2.2.1⟩
  clear H5
  have k6 := Bk.new w5 #[.slice d0 l0 e0, .slice d1 l1 e1, .int .u32 (ms : Nat)] 26
  have b6 := belA (Below.refl _ w5) (.cells #[.slice d0 l0 e0, .slice d1 l1 e1, .int .u32 (ms : Nat)] 26)
  obtain ⟨w6, hw6⟩ : ∃ y, w5.alloc (.cells #[.slice d0 l0 e0, .slice d1 l1 e1, .int .u32 (ms : Nat)] 26) = y := ⟨_, rfl⟩
  rw [hw6] at k6 b6
  obtain ⟨ba, hba⟩ : ∃ y, w5.heap.size = y := ⟨_, rfl⟩
  rw [hba] at k6
  have HB6 : Hid (Below W.heap.size W w6 ∧ PRow w6 d0 l0 P0 ∧ PRow w6 d1 l1 P1 ∧ MvRow w6 al n (fun i => (M i).bare) E ∧ Bk w6 ba #[.slice d0 l0 e0, .slice d1 l1 e1, .int .u32 (ms : Nat)] 26) := ⟨HB5.out.1.trans (b6.mono HB5.out.1.size), HB5.out.2.1.below b6, HB5.out.2.2.1.below b6, HB5.out.2.2.2.below b6, k6⟩
  go_upto_region 9 with fail
  try rw [hw6, hba]
  clear hw6 hba k6 b6 HB5
  have p0 : w6.cell? ⟨ba, 0, none⟩ = some (.slice d0 l0 e0) := HB6.out.2.2.2.2.cell 0
  have p1 : w6.cell? ⟨ba, 1, none⟩ = some (.slice d1 l1 e1) := HB6.out.2.2.2.2.cell 1
  have p2 : w6.cell? ⟨ba, 2, none⟩ = some (.int .u32 (ms : Nat)) := HB6.out.2.2.2.2.cell 2
  have s0 : w6.cell? ⟨w.heap.size, 0, none⟩ = some (.slice a0 l0 c0) := (cel.out w6 HB6.out.1).1.cell 0
  have s1 : w6.cell? ⟨w.heap.size, 1, none⟩ = some (.slice a1 l1 c1) := (cel.out w6 HB6.out.1).1.cell 1
  have s2 : w6.cell? ⟨w.heap.size, 2, none⟩ = some (.int .u32 (ms : Nat)) := (cel.out w6 HB6.out.1).1.cell 2
  have hQ := rsameN d0 d1 a0 a1 l0 l1 e0 e1 c0 c1 ms P0 P1 w6 HB6.out.2.1.psrow HB6.out.2.2.1.psrow (cel.out w6 HB6.out.1).2.1.psrow (cel.out w6 HB6.out.1).2.2.1.psrow (by have := HG.out; omega) (by have := HG.out; omega)
  have qn : (((n : Nat) : Int) != ((n : Nat) : Int)) = false := by simp
  go_wp2_with fail
  refine hQ.mono ?_
  rintro r w7 ⟨rfl, b7⟩
  have HB7 : Hid (Below W.heap.size W w7 ∧ PRow w7 d0 l0 P0 ∧ PRow w7 d1 l1 P1 ∧ MvRow w7 al n (fun i => (M i).bare) E ∧ Bk w7 ba #[.slice d0 l0 e0, .slice d1 l1 e1, .int .u32 (ms : Nat)] 26) := ⟨HB6.out.1.trans (b7.mono HB6.out.1.size), HB6.out.2.1.below b7, HB6.out.2.2.1.below b7, HB6.out.2.2.2.1.below b7, HB6.out.2.2.2.2.off (Off.of_below (l := []) b7) (by simp)⟩
  clear hQ b7 HB6 p0 p1 p2 s0 s1 s2
  go_wp2_with fail
  clear qn
  go_loopw [10, 67, 68, 69, 70, 71, 72, 73, 74, 75, 76, 77, 78, 79, 80, 81, 82, 83] (fun c _ _ _ _ _ _ _ _ _ _ _ _ _ _ _ _ _ wr => ∃ i : Nat, i ≤ n ∧ c = .int .i64 ((i : Nat) : Int) ∧ Hid (Below w7.heap.size w7 wr)) (fun c _ _ _ _ _ _ _ _ _ _ _ _ _ _ _ _ _ _ => n - natV c)
  case atStart => exact ⟨0, by omega, rfl, Below.refl _ _⟩
  case round =>
    obtain ⟨i, hi, rfl, HI⟩ := hrel
    have HIW : Hid (Below W.heap.size W wr) := HB7.out.1.trans (HI.out.mono HB7.out.1.size)
    by_cases hlt : i < n
    · have hlt' : ((i : Nat) : Int) < ((n : Nat) : Int) := by omega
      have hw1 : IntKind.i64.wrap (((i : Nat) : Int) + 1) = ((i + 1 : Nat) : Int) := by rw [IntKind.wrap_i64]; have := HG.out; omega
      obtain ⟨q, qo, eq, rq, Rq⟩ := (HB7.out.2.2.2.1.below HI.out) i hlt
      obtain ⟨p, po, ep, rp, Rp⟩ := (cel.out wr HIW.out).2.2.2.1 i hlt
      have hfi := HC.out.2.2 i hlt
      subst eq ep
      obtain ⟨m, hm⟩ : ∃ z, M i = z := ⟨_, rfl⟩
      obtain ⟨d, hd⟩ : ∃ z, D i = z := ⟨_, rfl⟩
      obtain ⟨e, he⟩ : ∃ z, E i = z := ⟨_, rfl⟩
      simp only at rq Rq
      rw [hm, he] at rq Rq
      rw [hm, hd] at rp Rp
      rw [hm] at hfi
      clear hm hd he
      obtain ⟨x, hx⟩ : ∃ z, m.bare = z := ⟨_, rfl⟩
      rw [hx] at rq Rq
      have HR : Hid (wr.rangeAt q (qo + i * 9) (x.ls e) ∧ wr.rangeAt p (po + i * 9) (m.ls d) ∧ Row8 wr e.a x.l e.c x.b ∧ Row8 wr d.a m.l d.c m.b ∧ m.fine ∧ m.bare = x) := ⟨rq, rp, Rq, Rp, hfi, hx⟩
      clear rq rp Rq Rp hfi hx
      have hS : ∀ wx, Below wr.heap.size wr wx → wx.cell? ⟨q, qo + i * 9, none⟩ = some (.int .i64 x.k) ∧ wx.cell? ⟨q, qo + i * 9 + 1, none⟩ = some (.int .i64 x.c) ∧ wx.cell? ⟨q, qo + i * 9 + 2, none⟩ = some (.int .i64 x.s) ∧ wx.cell? ⟨q, qo + i * 9 + 3, none⟩ = some (.int .i64 x.f) ∧ wx.cell? ⟨q, qo + i * 9 + 4, none⟩ = some (.int .i64 x.a) ∧ wx.cell? ⟨q, qo + i * 9 + 5, none⟩ = some (.int .u32 (x.w : Nat)) ∧ wx.cell? ⟨q, qo + i * 9 + 6, none⟩ = some (.int .i64 x.n) ∧ wx.cell? ⟨q, qo + i * 9 + 7, none⟩ = some (.bool x.h) ∧ wx.cell? ⟨q, qo + i * 9 + 8, none⟩ = some (.slice e.a x.l e.c) ∧ wx.cell? ⟨p, po + i * 9, none⟩ = some (.int .i64 m.k) ∧ wx.cell? ⟨p, po + i * 9 + 1, none⟩ = some (.int .i64 m.c) ∧ wx.cell? ⟨p, po + i * 9 + 2, none⟩ = some (.int .i64 m.s) ∧ wx.cell? ⟨p, po + i * 9 + 3, none⟩ = some (.int .i64 m.f) ∧ wx.cell? ⟨p, po + i * 9 + 4, none⟩ = some (.int .i64 m.a) ∧ wx.cell? ⟨p, po + i * 9 + 5, none⟩ = some (.int .u32 (m.w : Nat)) ∧ wx.cell? ⟨p, po + i * 9 + 6, none⟩ = some (.int .i64 m.n) ∧ wx.cell? ⟨p, po + i * 9 + 7, none⟩ = some (.bool m.h) ∧ wx.cell? ⟨p, po + i * 9 + 8, none⟩ = some (.slice d.a m.l d.c) := fun wx bx => by
        have y1 := rangeB HR.out.1 bx
        have y2 := rangeB HR.out.2.1 bx
        exact ⟨y1 0 _ rfl, y1 1 _ rfl, y1 2 _ rfl, y1 3 _ rfl, y1 4 _ rfl, y1 5 _ rfl, y1 6 _ rfl, y1 7 _ rfl, y1 8 _ rfl, y2 0 _ rfl, y2 1 _ rfl, y2 2 _ rfl, y2 3 _ rfl, y2 4 _ rfl, y2 5 _ rfl, y2 6 _ rfl, y2 7 _ rfl, y2 8 _ rfl⟩
      have hB : ∀ wx, Below wr.heap.size wr wx → Calls Tryd.prog 16 #[.agg #[.int .i64 m.k, .int .i64 m.c, .int .i64 m.s, .int .i64 m.f, .int .i64 m.a, .int .u32 (m.w : Nat), .int .i64 m.n, .bool m.h, .slice d.a m.l d.c]] wx fun r w' => ∃ v, r = .returned v ∧ (∃ a' c', v = .agg #[.int .i64 x.k, .int .i64 x.c, .int .i64 x.s, .int .i64 x.f, .int .i64 x.a, .int .u32 (x.w : Nat), .int .i64 x.n, .bool x.h, .slice a' x.l c'] ∧ Hid (Row8 w' a' x.l c' x.b) ∧ Below wr.heap.size wr w') := fun wx bx => by
        have := pbare m HR.out.2.2.2.2.1.1 d.a d.c wx (HR.out.2.2.2.1.below bx)
        rw [HR.out.2.2.2.2.2] at this
        refine this.mono ?_
        rintro r w' ⟨a', c', rfl, H⟩
        exact ⟨_, rfl, a', c', rfl, H.out.1, bx.trans (H.out.2.mono bx.size)⟩
      have hC : ∀ a' c' wx, Row8 wx a' x.l c' x.b → Below wr.heap.size wr wx → Calls Tryd.prog 15 #[.agg #[.int .i64 x.k, .int .i64 x.c, .int .i64 x.s, .int .i64 x.f, .int .i64 x.a, .int .u32 (x.w : Nat), .int .i64 x.n, .bool x.h, .slice e.a x.l e.c], .agg #[.int .i64 x.k, .int .i64 x.c, .int .i64 x.s, .int .i64 x.f, .int .i64 x.a, .int .u32 (x.w : Nat), .int .i64 x.n, .bool x.h, .slice a' x.l c']] wx fun r w' => ∃ v, r = .returned v ∧ (v = .bool true ∧ Below wr.heap.size wr w') := fun a' c' wx rx bx => by
        refine (rsameM x e.a a' e.c c' wx (HR.out.2.2.1.below bx) rx).mono ?_
        rintro r w' ⟨rfl, b⟩
        exact ⟨_, rfl, rfl, bx.trans (b.mono bx.size)⟩
      have HSd := hS wr (Below.refl _ _)
      have B0 : Below wr.heap.size wr wr.drew := Below.drew (Below.refl _ _)
      have HSe := hS _ B0
      go_upto_region 14 with fail
      go_cut [83] (fun z wx => z = .bool false ∧ Hid (Below w7.heap.size w7 wx))
      case first =>
        go_region_held3 (fun wx => wx.cell? ⟨q, qo + i * 9, none⟩ = some (.int .i64 x.k) ∧ wx.cell? ⟨q, qo + i * 9 + 1, none⟩ = some (.int .i64 x.c) ∧ wx.cell? ⟨q, qo + i * 9 + 2, none⟩ = some (.int .i64 x.s) ∧ wx.cell? ⟨q, qo + i * 9 + 3, none⟩ = some (.int .i64 x.f) ∧ wx.cell? ⟨q, qo + i * 9 + 4, none⟩ = some (.int .i64 x.a) ∧ wx.cell? ⟨q, qo + i * 9 + 5, none⟩ = some (.int .u32 (x.w : Nat)) ∧ wx.cell? ⟨q, qo + i * 9 + 6, none⟩ = some (.int .i64 x.n) ∧ wx.cell? ⟨q, qo + i * 9 + 7, none⟩ = some (.bool x.h) ∧ wx.cell? ⟨q, qo + i * 9 + 8, none⟩ = some (.slice e.a x.l e.c) ∧ wx.cell? ⟨p, po + i * 9, none⟩ = some (.int .i64 m.k) ∧ wx.cell? ⟨p, po + i * 9 + 1, none⟩ = some (.int .i64 m.c) ∧ wx.cell? ⟨p, po + i * 9 + 2, none⟩ = some (.int .i64 m.s) ∧ wx.cell? ⟨p, po + i * 9 + 3, none⟩ = some (.int .i64 m.f) ∧ wx.cell? ⟨p, po + i * 9 + 4, none⟩ = some (.int .i64 m.a) ∧ wx.cell? ⟨p, po + i * 9 + 5, none⟩ = some (.int .u32 (m.w : Nat)) ∧ wx.cell? ⟨p, po + i * 9 + 6, none⟩ = some (.int .i64 m.n) ∧ wx.cell? ⟨p, po + i * 9 + 7, none⟩ = some (.bool m.h) ∧ wx.cell? ⟨p, po + i * 9 + 8, none⟩ = some (.slice d.a m.l d.c)) (first | assumption | exact hS _ (by assumption)) (first
          | (refine step_callS 16 #[.tmp 80] #[45] rfl (by kernel_rfl) #[.agg #[.int .i64 m.k, .int .i64 m.c, .int .i64 m.s, .int .i64 m.f, .int .i64 m.a, .int .u32 (m.w : Nat), .int .i64 m.n, .bool m.h, .slice d.a m.l d.c]] (by kernel_rfl) (hB _ (by assumption)) ?_; rintro z v1 ⟨a', c', rfl, R1, b1⟩)
          | (refine step_callS 15 #[.tmp 76, .tmp 81] #[45, 45] rfl (by kernel_rfl) #[.agg #[.int .i64 x.k, .int .i64 x.c, .int .i64 x.s, .int .i64 x.f, .int .i64 x.a, .int .u32 (x.w : Nat), .int .i64 x.n, .bool x.h, .slice e.a x.l e.c], .agg #[.int .i64 x.k, .int .i64 x.c, .int .i64 x.s, .int .i64 x.f, .int .i64 x.a, .int .u32 (x.w : Nat), .int .i64 x.n, .bool x.h, .slice a' x.l c']] (by kernel_rfl) (hC a' c' _ R1.out b1) ?_; rintro z v2 ⟨rfl, b2⟩)
          | fail)
        all_goals ((try go_wp2_with fail); go_meet; exact ⟨by first | rfl | simp, HI.out.trans (b2.mono HI.out.size)⟩)
      case rest =>
        obtain ⟨rfl, HJ⟩ := hcut
        clear hS hB hC HSd HSe B0 HR HI HIW
        go_wp2_with fail
        go_roundw
        case rel => exact ⟨i + 1, by omega, by first | rfl | go_num, HJ⟩
        case measure => simp [natV] <;> omega
    · obtain rfl : i = n := by omega
      have hlt' : ¬ ((i : Nat) : Int) < ((i : Nat) : Int) := by omega
      have p0 : wr.cell? ⟨ba, 0, none⟩ = some (.slice d0 l0 e0) := cellB (HB7.out.2.2.2.2.cell 0) HI.out
      have p1 : wr.cell? ⟨ba, 1, none⟩ = some (.slice d1 l1 e1) := cellB (HB7.out.2.2.2.2.cell 1) HI.out
      have p2 : wr.cell? ⟨ba, 2, none⟩ = some (.int .u32 (ms : Nat)) := cellB (HB7.out.2.2.2.2.cell 2) HI.out
      have hP := HC.out.2.1 d0 d1 al e0 e1 cl E wr HIW.out (HB7.out.2.1.below HI.out) (HB7.out.2.2.1.below HI.out) (HB7.out.2.2.2.1.below HI.out)
      go_wp2_with fail
      refine hP.mono ?_
      rintro r w9 ⟨rfl, b9⟩
      have HF : Hid (Below w.heap.size w w9) := (cel.out w9 (HIW.out.trans (b9.mono HIW.out.size))).2.2.2.2.2.1
      clear hP b9 p0 p1 p2 HI HIW
      go_wp2_with fail
      go_ret
      exact ⟨by first | rfl | simp, HF.out⟩
end Go.Proofs.YtnmnjcjfgbpkaaaDoor
