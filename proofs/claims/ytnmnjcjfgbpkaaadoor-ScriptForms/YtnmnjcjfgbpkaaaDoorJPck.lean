/- Parameter sets: Check and the document's Lawful alone (out of Par.lean, Par5.lean). -/
import Derived.Test.YtnmnjcjfgbpkaaaDoorJRowv
import Derived.Test.YtnmnjcjfgbpkaaaDoorJSj
import Derived.Test.YtnmnjcjfgbpkaaaDoorJOl
import Derived.Deep.RegionHeld3
import Derived.Deep.MidRow
import Derived.Deep.Upon
import Derived.Maps.AppendAt
import Derived.Laws.AppendOwnNone
namespace Go.Proofs.YtnmnjcjfgbpkaaaDoor
set_option maxRecDepth 100000
open Go.RowKit

/-- A lawful set. -/
def okP (c o i t n : Int) : Prop := c ≠ 0 ∧ (1 ≤ o ∧ o ≤ 8) ∧ (1 ≤ i ∧ i ≤ 8) ∧ (1 ≤ t ∧ t ≤ 1048576) ∧ 2 ≤ n
instance okP_dec (c o i t n : Int) : Decidable (okP c o i t n) := by unfold okP; infer_instance
set_option maxRecDepth 100000 in
set_option maxHeartbeats 1000000 in
theorem within_any (x m : Int) (w : World) (b : Bool) (hb : decide (1 ≤ x ∧ x ≤ m) = b) :
    Calls Tryd.prog 66 #[.int .i64 x, .int .i64 m] w fun e w' => e = .returned (.bool b) ∧ w' = w := by
  by_cases h1 : 1 ≤ x
  · have q1 : decide (1 ≤ x) = true := decide_eq_true h1
    have hb2 : decide (x ≤ m) = b := by rw [← hb]; simp [h1]
    clear hb h1
    go_enter Tryd.func66, Tryd.ntmps66
    go_wp2_with fail
    go_ret
    exact ⟨by simp, rfl⟩
  · have q1 : decide (1 ≤ x) = false := decide_eq_false h1
    have hb2 : b = false := by rw [← hb]; simp [h1]
    subst hb2
    clear hb h1
    go_enter Tryd.func66, Tryd.ntmps66
    go_wp2_with fail
    go_ret
    exact ⟨rfl, rfl⟩
set_option maxRecDepth 100000 in
set_option maxHeartbeats 2000000 in
theorem check_any (c : Nat) (o i t : Int) (n : Nat) (w : World) (E : Int) (hE : (if okP c o i t n then 0 else 90) = E) :
    Calls Tryd.prog 51 #[.agg #[.int .u32 c, .int .i64 o, .int .i64 i, .int .i64 t, .int .u32 n]] w fun e w' => e = .returned (.int .i64 E) ∧ Below w.heap.size w w' := by
  have hb : Below w.heap.size w (w.alloc (.cells #[.int .u32 c, .int .i64 o, .int .i64 i, .int .i64 t, .int .u32 n] 50)) := (Below.refl _ _).alloc (Nat.le_refl _) _
  have wi1 := fun b h wx => within_any o 8 wx b h
  have wi2 := fun b h wx => within_any i 8 wx b h
  have wi3 := fun b h wx => within_any t 1048576 wx b h
  have HB : Hid (_) := hb
  have HE : Hid (_) := hE
  clear hE hb
  by_cases h1 : (c : Int) = 0
  · have q1 : ((c : Int) == 0) = true := by simpa using h1
    have hE' : E = 90 := by rw [← HE.out, if_neg (fun h => h.1 h1)]
    subst hE'
    clear wi1 wi2 wi3 HE h1
    go_enter Tryd.func51, Tryd.ntmps51
    go_wp2_with fail
    go_ret
    exact ⟨rfl, HB.out⟩
  · have q1 : ((c : Int) == 0) = false := by simpa using h1
    by_cases h2 : 1 ≤ o ∧ o ≤ 8
    · replace wi1 := wi1 true (decide_eq_true h2)
      by_cases h3 : 1 ≤ i ∧ i ≤ 8
      · replace wi2 := wi2 true (decide_eq_true h3)
        by_cases h4 : 1 ≤ t ∧ t ≤ 1048576
        · replace wi3 := wi3 true (decide_eq_true h4)
          by_cases h5 : (n : Int) < 2
          · have q5 : decide ((n : Int) < 2) = true := decide_eq_true h5
            have hE' : E = 90 := by rw [← HE.out, if_neg (fun h => absurd h.2.2.2.2 (by omega))]
            subst hE'
            clear HE h1 h2 h3 h4 h5
            go_enter Tryd.func51, Tryd.ntmps51
            go_wp2_with fail
            refine (wi1 _).mono ?_
            rintro e w1 ⟨rfl, rfl⟩
            go_wp2_with fail
            refine (wi2 _).mono ?_
            rintro e w1 ⟨rfl, rfl⟩
            go_wp2_with fail
            refine (wi3 _).mono ?_
            rintro e w1 ⟨rfl, rfl⟩
            go_wp2_with fail
            go_ret
            exact ⟨rfl, HB.out⟩
          · have q5 : decide ((n : Int) < 2) = false := decide_eq_false h5
            have hE' : E = 0 := by rw [← HE.out, if_pos ⟨h1, h2, h3, h4, by omega⟩]
            subst hE'
            clear HE h1 h2 h3 h4 h5
            go_enter Tryd.func51, Tryd.ntmps51
            go_wp2_with fail
            refine (wi1 _).mono ?_
            rintro e w1 ⟨rfl, rfl⟩
            go_wp2_with fail
            refine (wi2 _).mono ?_
            rintro e w1 ⟨rfl, rfl⟩
            go_wp2_with fail
            refine (wi3 _).mono ?_
            rintro e w1 ⟨rfl, rfl⟩
            go_wp2_with fail
            go_ret
            exact ⟨rfl, HB.out⟩
        · replace wi3 := wi3 false (decide_eq_false h4)
          have hE' : E = 90 := by rw [← HE.out, if_neg (fun h => h4 h.2.2.2.1)]
          subst hE'
          clear HE h1 h2 h3 h4
          go_enter Tryd.func51, Tryd.ntmps51
          go_wp2_with fail
          refine (wi1 _).mono ?_
          rintro e w1 ⟨rfl, rfl⟩
          go_wp2_with fail
          refine (wi2 _).mono ?_
          rintro e w1 ⟨rfl, rfl⟩
          go_wp2_with fail
          refine (wi3 _).mono ?_
          rintro e w1 ⟨rfl, rfl⟩
          go_wp2_with fail
          go_ret
          exact ⟨rfl, HB.out⟩
      · replace wi2 := wi2 false (decide_eq_false h3)
        have hE' : E = 90 := by rw [← HE.out, if_neg (fun h => h3 h.2.2.1)]
        subst hE'
        clear HE h1 h2 h3 wi3
        go_enter Tryd.func51, Tryd.ntmps51
        go_wp2_with fail
        refine (wi1 _).mono ?_
        rintro e w1 ⟨rfl, rfl⟩
        go_wp2_with fail
        refine (wi2 _).mono ?_
        rintro e w1 ⟨rfl, rfl⟩
        go_wp2_with fail
        go_ret
        exact ⟨rfl, HB.out⟩
    · replace wi1 := wi1 false (decide_eq_false h2)
      have hE' : E = 90 := by rw [← HE.out, if_neg (fun h => h2 h.2.1)]
      subst hE'
      clear HE h1 h2 wi2 wi3
      go_enter Tryd.func51, Tryd.ntmps51
      go_wp2_with fail
      refine (wi1 _).mono ?_
      rintro e w1 ⟨rfl, rfl⟩
      go_wp2_with fail
      go_ret
      exact ⟨rfl, HB.out⟩
set_option maxRecDepth 100000 in
set_option maxHeartbeats 4000000 in
theorem rlaw_any (c : Nat) (o i t : Int) (n : Nat) (w : World) (D : Bool) (hD : decide (okP c o i t n) = D) :
    Calls Tryd.prog 17 #[.agg #[.int .u32 c, .int .i64 o, .int .i64 i, .int .i64 t, .int .u32 n]] w fun e w' => e = .returned (.bool D) ∧ Below w.heap.size w w' := by
  have hb : Below w.heap.size w (w.alloc (.cells #[.int .u32 c, .int .i64 o, .int .i64 i, .int .i64 t, .int .u32 n] 50)) := (Below.refl _ _).alloc (Nat.le_refl _) _
  have HB : Hid (_) := hb
  have HD : Hid (_) := hD
  clear hD hb
  by_cases h0 : (0 : Int) < (c : Int)
  rotate_left
  · have q0 : decide ((0 : Int) < (c : Int)) = false := decide_eq_false h0
    have r0 : c = 0 := by omega
    subst r0
    have hD' : D = false := by rw [← HD.out]; exact decide_eq_false (fun h => by unfold okP at h; omega)
    subst hD'
    clear HD h0
    go_enter Tryd.func17, Tryd.ntmps17
    go_wp2_with fail
    go_ret
    exact ⟨rfl, HB.out⟩
  have q0 : decide ((0 : Int) < (c : Int)) = true := decide_eq_true h0
  have r0 : 0 < c := by omega
  by_cases h1 : 1 ≤ o
  rotate_left
  · have q1 : decide (1 ≤ o) = false := decide_eq_false h1
    have hD' : D = false := by rw [← HD.out]; exact decide_eq_false (fun h => by unfold okP at h; omega)
    subst hD'
    clear HD h0 h1
    go_enter Tryd.func17, Tryd.ntmps17
    go_wp2_with fail
    go_ret
    exact ⟨rfl, HB.out⟩
  have q1 : decide (1 ≤ o) = true := decide_eq_true h1
  by_cases h2 : o ≤ 8
  rotate_left
  · have q2 : decide (o ≤ 8) = false := decide_eq_false h2
    have hD' : D = false := by rw [← HD.out]; exact decide_eq_false (fun h => by unfold okP at h; omega)
    subst hD'
    clear HD h0 h1 h2
    go_enter Tryd.func17, Tryd.ntmps17
    go_wp2_with fail
    go_ret
    exact ⟨rfl, HB.out⟩
  have q2 : decide (o ≤ 8) = true := decide_eq_true h2
  by_cases h3 : 1 ≤ i
  rotate_left
  · have q3 : decide (1 ≤ i) = false := decide_eq_false h3
    have hD' : D = false := by rw [← HD.out]; exact decide_eq_false (fun h => by unfold okP at h; omega)
    subst hD'
    clear HD h0 h1 h2 h3
    go_enter Tryd.func17, Tryd.ntmps17
    go_wp2_with fail
    go_ret
    exact ⟨rfl, HB.out⟩
  have q3 : decide (1 ≤ i) = true := decide_eq_true h3
  by_cases h4 : i ≤ 8
  rotate_left
  · have q4 : decide (i ≤ 8) = false := decide_eq_false h4
    have hD' : D = false := by rw [← HD.out]; exact decide_eq_false (fun h => by unfold okP at h; omega)
    subst hD'
    clear HD h0 h1 h2 h3 h4
    go_enter Tryd.func17, Tryd.ntmps17
    go_wp2_with fail
    go_ret
    exact ⟨rfl, HB.out⟩
  have q4 : decide (i ≤ 8) = true := decide_eq_true h4
  by_cases h5 : 1 ≤ t
  rotate_left
  · have q5 : decide (1 ≤ t) = false := decide_eq_false h5
    have hD' : D = false := by rw [← HD.out]; exact decide_eq_false (fun h => by unfold okP at h; omega)
    subst hD'
    clear HD h0 h1 h2 h3 h4 h5
    go_enter Tryd.func17, Tryd.ntmps17
    go_wp2_with fail
    go_ret
    exact ⟨rfl, HB.out⟩
  have q5 : decide (1 ≤ t) = true := decide_eq_true h5
  by_cases h6 : t ≤ 1048576
  rotate_left
  · have q6 : decide (t ≤ 1048576) = false := decide_eq_false h6
    have hD' : D = false := by rw [← HD.out]; exact decide_eq_false (fun h => by unfold okP at h; omega)
    subst hD'
    clear HD h0 h1 h2 h3 h4 h5 h6
    go_enter Tryd.func17, Tryd.ntmps17
    go_wp2_with fail
    go_ret
    exact ⟨rfl, HB.out⟩
  have q6 : decide (t ≤ 1048576) = true := decide_eq_true h6
  by_cases h7 : (2 : Int) ≤ (n : Int)
  rotate_left
  · have q7 : decide ((2 : Int) ≤ (n : Int)) = false := decide_eq_false h7
    have hD' : D = false := by rw [← HD.out]; exact decide_eq_false (fun h => by unfold okP at h; omega)
    subst hD'
    clear HD h0 h1 h2 h3 h4 h5 h6 h7
    go_enter Tryd.func17, Tryd.ntmps17
    go_wp2_with fail
    go_ret
    exact ⟨rfl, HB.out⟩
  have q7 : decide ((2 : Int) ≤ (n : Int)) = true := decide_eq_true h7
  have hD' : D = true := by rw [← HD.out]; exact decide_eq_true (by unfold okP; omega)
  subst hD'
  clear HD h0 h1 h2 h3 h4 h5 h6 h7
  go_enter Tryd.func17, Tryd.ntmps17
  go_wp2_with fail
  go_ret
  exact ⟨rfl, HB.out⟩
end Go.Proofs.YtnmnjcjfgbpkaaaDoor
namespace Go.Proofs.YtnmnjcjfgbpkaaaDoor
set_option maxRecDepth 100000
open Go.RowKit Go.Maps
set_option maxRecDepth 100000
theorem Mv.small (m : Mv) (hE : m.err = 0) (h : m.k = 1) : m.l ≤ 8 := by
  unfold Mv.err at hE
  repeat' split at hE
  all_goals first | omega | skip
theorem Mv.line_lenL {m : Mv} (h : m.Ok) (hl : m.k = 1 → m.l ≤ 100000) : m.line.length ≤ 2000000 ∧ m.ws.length ≤ 8 ∧ 0 < m.ws.length := by
  by_cases hk : m.k = 1
  · exact Mv.line_len h (hl hk)
  · have h0 := Mv.line_len (m := { m with l := 0 }) ⟨h.k, h.c, h.s, h.f, h.a, h.w, h.n⟩ (by simp)
    have e : m.ws = ({ m with l := 0 } : Mv).ws := by
      unfold Mv.ws Mv.w3
      rw [if_neg hk, if_neg (show ¬ ({ m with l := 0 } : Mv).k = 1 from hk)]
      rfl
    unfold Mv.line
    rw [e]
    exact h0
set_option maxHeartbeats 2000000 in
theorem pmoveL (m : Mv) (hm : m.Ok) (d : Option Addr) (e : Nat) (w : World) (hr : Row8 w d m.l e m.b) (hl0 : m.l ≤ 140737488355328) (L : Lk w) : Calls Tryd.prog 19 #[.agg #[.int .i64 m.k, .int .i64 m.c, .int .i64 m.s, .int .i64 m.f, .int .i64 m.a, .int .u32 (m.w : Nat), .int .i64 m.n, .bool m.h, .slice d m.l e]] w fun r w' => r = .returned (.tuple #[.string (if m.err = 0 then tx m.line else ByteArray.mk #[]), .int .i64 m.err]) ∧ Below w.heap.size w w' := by
  obtain ⟨W, hW⟩ : ∃ W : World, w.alloc (.cells #[.int .i64 m.k, .int .i64 m.c, .int .i64 m.s, .int .i64 m.f, .int .i64 m.a, .int .u32 (m.w : Nat), .int .i64 m.n, .bool m.h, .slice d m.l e] 45) = W := ⟨_, rfl⟩
  have bW : Below w.heap.size w W := by rw [← hW]; exact belA (Below.refl _ _) _
  have mW : MvW W w.heap.size m d e := by rw [← hW]; exact MvW.new w m d e
  have hRf := prefusal m hm d e W (by omega)
  have HW : Hid (_) := And.intro bW (And.intro mW (And.intro (hr.below bW) (And.intro (L.below bW) hm)))
  obtain ⟨c0, c1, c2, c3, c4, c5, c6, c7, c8⟩ := mW.cells
  clear bW mW hr L hm
  by_cases hE : m.err = 0
  · have HLk : Hid (m.k = 1 → m.l ≤ 8) := m.small hE
    rw [hE] at hRf
    rw [if_pos hE, hE]
    go_enter Tryd.func19, Tryd.ntmps19
    go_wp2_with fail
    try rw [hW]
    clear hW
    refine hRf.mono ?_
    rintro r w1 ⟨rfl, b1⟩
    clear hRf c0 c1 c2 c3 c4 c5 c6 c7 c8
    have HB1 : Hid (_) := b1
    obtain ⟨bW, mW, R, L, hm⟩ := HW.out
    have k1 : 1 ≤ m.k ∧ m.k ≤ 8 := by
      unfold Mv.err at hE
      repeat' split at hE
      all_goals first | omega | skip
    obtain ⟨kk, hkk⟩ : ∃ kk : Nat, m.k = ((kk : Nat) : Int) := ⟨m.k.toNat, by omega⟩
    have hk8 : kk < 9 := by omega
    obtain ⟨Kw, hKw⟩ : ∃ l, kws[kk]? = some l := by
      have : kk < kws.length := hk8
      exact ⟨_, List.getElem?_eq_getElem this⟩
    have hKg : kws.getD m.k.toNat [] = Kw := by rw [hkk, Int.toNat_natCast, List.getD_eq_getElem?_getD, hKw]; rfl
    obtain ⟨c0, c1, c2, c3, c4, c5, c6, c7, c8⟩ := (mW.below b1).cells
    rw [hkk] at c0
    have g0 := (L.below b1).word kk hKw
    have hI := fun wx (bx : Below w1.heap.size w1 wx) => pitoa m.c hm.c.1 hm.c.2 wx ((L.below b1).below bx)
    have hS : ∀ wx, Below w1.heap.size w1 wx → wx.cell? ⟨w.heap.size, 0, none⟩ = some (.int .i64 ((kk : Nat) : Int)) ∧ wx.cell? ⟨w.heap.size, 1, none⟩ = some (.int .i64 m.c) ∧ wx.cell? ⟨0, kk, none⟩ = some (.string (tx Kw)) := fun wx bx => ⟨cellB c0 bx, cellB c1 bx, cellB g0 bx⟩
    have HSd := hS w1.drew (Below.drew (Below.refl _ _))
    have hIc : ∀ wx, Below w1.heap.size w1 wx → Calls Tryd.prog 28 #[.int .i64 m.c] wx fun r w' => ∃ x, r = .returned x ∧ (x = .string (tx (Lib.itoa m.c)) ∧ Below w1.heap.size w1 w') := fun wx bx => (hI wx bx).mono fun _ _ ⟨q, b⟩ => ⟨_, q, rfl, belTS b bx⟩
    have B0 : Below w1.heap.size w1 w1.drew := Below.drew (Below.refl _ _)
    have hk0 : (0 : Int) ≤ ((kk : Nat) : Int) := by omega
    have hk9 : ((kk : Nat) : Int) < 9 := by omega
    clear hI bW mW R L hm b1 hKw g0 c2 c3 c4 c5 c6 c7 c8
    generalize hA : tx (Lib.itoa m.c) = A at *
    generalize hKt : tx Kw = KW at *
    have HKw : Hid (tx Kw = KW ∧ tx (Lib.itoa m.c) = A ∧ kws.getD m.k.toNat [] = Kw) := ⟨hKt, hA, hKg⟩
    clear hA hKt hKg
    go_wp2_with fail
    go_region_held3 (fun wx => wx.cell? ⟨w.heap.size, 0, none⟩ = some (.int .i64 ((kk : Nat) : Int)) ∧ wx.cell? ⟨w.heap.size, 1, none⟩ = some (.int .i64 m.c) ∧ wx.cell? ⟨0, kk, none⟩ = some (.string KW)) (first | assumption | exact hS _ (by assumption) | exact hS _ (belA (by assumption) _)) (first
      | (refine step_callS 28 #[.tmp 16] #[3] rfl (by kernel_rfl) #[.int .i64 m.c] (by kernel_rfl) (hIc _ (by assumption)) ?_; rintro x v1 ⟨rfl, b1⟩)
      | fail)
    obtain ⟨w2, hw2⟩ : ∃ x, v1.alloc (.cells #[.string KW, .string A] 9) = x := ⟨_, rfl⟩
    obtain ⟨gv, hgv⟩ : ∃ x, v1.heap.size = x := ⟨_, rfl⟩
    have HWd : Hid (Wd W w2 (.slice (some ⟨gv, 0, none⟩) 2 2) m.w1) := by
      have bw1 := HB1.out
      have bb : Below W.heap.size W v1 := bw1.trans (b1.mono bw1.size)
      rw [← hw2, ← hgv]
      refine ⟨⟨rfl, .inr ⟨v1.heap.size, 2, _, rfl, bb.size, heap_alloc_new _ _, Nat.le_refl _, by decide, rfl, ?_⟩⟩, belA bb _⟩
      show _ = wsT m.w1
      unfold Mv.w1 wsT
      obtain ⟨e1, e2, e3⟩ := HKw.out
      rw [e3]
      simp [e1, e2]
    have HK : Hid (m.k = ((kk : Nat) : Int)) := hkk
    rw [hw2, hgv]
    clear hw2 hgv b1 hS HSd hIc B0 c0 c1 hkk HKw HB1
    have cel : Hid (∀ wx, Below W.heap.size W wx → MvW wx w.heap.size m d e ∧ Row8 wx d m.l e m.b ∧ Lk wx) := fun wx bx => ⟨HW.out.2.1.below bx, HW.out.2.2.1.below bx, HW.out.2.2.2.1.below bx⟩
    obtain ⟨c0, c1, c2, c3, c4, c5, c6, c7, c8⟩ := (cel.out w2 HWd.out.bel).1.cells
    rw [HK.out] at c0
    have hU := puses ((kk : Nat) : Int)
    go_upto_if 21 with (go_at_call 33; refine (hU _).mono ?_; rintro r w' ⟨rfl, hw⟩; have hw := hw.symm; subst hw)
    clear hU
    go_cut [5] (fun v wx => Hid (Wd W wx v (m.w1 ++ m.w2)))
    case first =>
      have HU : Hid (m.w2 = if sided ((kk : Nat) : Int) then [if m.s = 1 then [104] else [100]] else []) := by
        show m.w2 = _
        unfold Mv.w2
        rw [HK.out]
      cases hsd : sided ((kk : Nat) : Int) with
      | false =>
        have H2 : Hid (Wd W w2 (.slice (some ⟨gv, 0, none⟩) 2 2) (m.w1 ++ m.w2)) := by
          show Wd W w2 (.slice (some ⟨gv, 0, none⟩) 2 2) (m.w1 ++ m.w2)
          rw [HU.out, hsd]
          simpa using HWd.out
        clear hsd
        go_wp2_with fail
        go_meet
        exact H2
      | true =>
        have hP := pside m.s
        obtain ⟨sw, hsw⟩ : ∃ l : List UInt8, (if m.s = 1 then [104] else [100]) = l := ⟨_, rfl⟩
        rw [hsw] at hP
        obtain ⟨X, hX⟩ : ∃ X, tx sw = X := ⟨_, rfl⟩
        rw [hX] at hP
        have HU2 : Hid (m.w2 = [sw]) := by
          show m.w2 = _
          rw [HU.out, hsd, hsw]
          rfl
        clear hsw
        clear hsd HU
        go_wp2_with fail
        refine (hP _).mono ?_
        rintro r w' ⟨rfl, hw⟩
        rw [hw]
        clear hw hP c0 c1 c2 c3 c4 c5 c6 c7 c8
        go_wp2_with (at_builtin; refine wpList_appW rfl _ _ rfl _ X hX HWd.out (Below.refl _ _) rfl rfl (by simp [Mv.w1]) ?_)
        intro v7 w7 h7
        have H2 : Hid (Wd W w7 v7 (m.w1 ++ m.w2)) := by
          show Wd W w7 v7 (m.w1 ++ m.w2)
          rw [HU2.out]
          exact h7.out
        clear h7
        go_wp2_with fail
        go_meet
        exact H2
    case rest =>
      have H3 : Hid (Wd W wc u5 (m.w1 ++ m.w2)) := hcut
      have l2 : (m.w1 ++ m.w2).length ≤ 3 ∧ 0 < (m.w1 ++ m.w2).length := by
        unfold Mv.w2
        split <;> simp [Mv.w1]
      have HL2 : Hid (_) := l2
      clear hcut c0 c1 c2 c3 c4 c5 c6 c7 c8 HWd l2 hw
      obtain ⟨c0, c1, c2, c3, c4, c5, c6, c7, c8⟩ := (cel.out wc H3.out.bel).1.cells
      rw [HK.out] at c0
      obtain ⟨w5, hw5⟩ : ∃ x, wc = x := ⟨_, rfl⟩
      rw [hw5] at H3 c0 c1 c2 c3 c4 c5 c6 c7 c8 ⊢
      clear hw5 wc
      go_upto_if 30 with fail
      go_cut [5] (fun v wx => Hid (Wd W wx v (m.w1 ++ m.w2 ++ m.w3)))
      case first =>
        by_cases hk1 : kk = 1
        · have g1 : (((kk : Nat) : Int) == 1) = true := by
            have : ((kk : Nat) : Int) = 1 := by omega
            simpa using this
          have hD := pdata d m.l e m.b w5 (cel.out w5 H3.out.bel).2.1 (by have h8 := HLk.out (by rw [HK.out, hk1]; rfl); omega)
          obtain ⟨X, hX⟩ : ∃ X, tx (120 :: hx m.l m.b) = X := ⟨_, rfl⟩
          rw [hX] at hD
          have HU : Hid (m.w3 = (120 :: hx m.l m.b) :: (if m.h then [[104, 111, 108, 100]] else [])) := by
            show m.w3 = _
            unfold Mv.w3
            rw [if_pos (by rw [HK.out, hk1]; rfl)]
          clear hk1
          go_wp2_with fail
          refine hD.mono ?_
          rintro r w6 ⟨rfl, b6⟩
          have HB6 : Hid (_) := b6
          clear b6 hD c0 c1 c2 c3 c4 c5 c6 c7 c8
          go_wp2_with (at_builtin; refine wpList_appW rfl _ _ rfl _ X hX H3.out HB6.out rfl rfl (by have := HL2.out; omega) ?_)
          intro v7 w7 h7
          obtain ⟨c0, c1, c2, c3, c4, c5, c6, c7, c8⟩ := (cel.out w7 h7.out.bel).1.cells
          clear hX
          rcases Bool.eq_false_or_eq_true m.h with hh | hh
          rotate_left
          · rw [hh] at c7
            have H4 : Hid (Wd W w7 v7 (m.w1 ++ m.w2 ++ m.w3)) := by
              show Wd W w7 v7 (m.w1 ++ m.w2 ++ m.w3)
              rw [HU.out, hh]
              exact h7.out
            clear h7 hh
            go_wp2_with fail
            go_meet
            exact H4
          · rw [hh] at c7
            have hl3 : (m.w1 ++ m.w2 ++ [120 :: hx m.l m.b]).length ≤ 1000 := by
              have := HL2.out
              rw [List.length_append]
              show _ + 1 ≤ 1000
              omega
            have HU2 : Hid (m.w1 ++ m.w2 ++ m.w3 = m.w1 ++ m.w2 ++ [120 :: hx m.l m.b] ++ [[104, 111, 108, 100]]) := by
              show _ = _
              rw [HU.out, hh]
              simp
            clear hh
            have HT : tx [104, 111, 108, 100] = ByteArray.mk #[104, 111, 108, 100] := rfl
            go_wp2_with (at_builtin; refine wpList_appW rfl _ _ rfl _ (ByteArray.mk #[104, 111, 108, 100]) HT h7.out (Below.refl _ _) rfl rfl hl3 ?_)
            intro v8 w8 h8
            have H4 : Hid (Wd W w8 v8 (m.w1 ++ m.w2 ++ m.w3)) := by
              show Wd W w8 v8 (m.w1 ++ m.w2 ++ m.w3)
              rw [HU2.out]
              simpa using h8.out
            clear h7 h8
            go_wp2_with fail
            go_meet
            exact H4
        · have g1 : (((kk : Nat) : Int) == 1) = false := by
            have : ¬ ((kk : Nat) : Int) = 1 := by omega
            simpa using this
          have H4 : Hid (Wd W w5 u5 (m.w1 ++ m.w2 ++ m.w3)) := by
            have e : m.w3 = [] := by
              unfold Mv.w3
              rw [if_neg (by rw [HK.out]; omega)]
            show Wd W w5 u5 (m.w1 ++ m.w2 ++ m.w3)
            rw [e, List.append_nil]
            exact H3.out
          clear hk1
          go_wp2_with fail
          go_meet
          exact H4
      case rest =>
        have H4 : Hid (Wd W wc u5 (m.w1 ++ m.w2 ++ m.w3)) := hcut
        clear hcut c0 c1 c2 c3 c4 c5 c6 c7 c8 H3
        obtain ⟨c0, c1, c2, c3, c4, c5, c6, c7, c8⟩ := (cel.out wc H4.out.bel).1.cells
        obtain ⟨w6, hw6⟩ : ∃ x, wc = x := ⟨_, rfl⟩
        rw [hw6] at H4 c0 c1 c2 c3 c4 c5 c6 c7 c8 ⊢
        clear hw6 wc
        have hLs := plast m HW.out.2.2.2.2 d e w6
        go_wp2_with fail
        refine hLs.mono ?_
        rintro r w7 ⟨an, cn, rfl, h7⟩
        have hDc := pdecimals an m.ns.length cn (zf m.ns) w7 h7.out.1 (fun i hi => Mv.ns_ok HW.out.2.2.2.2 _ (by
          unfold zf
          rw [List.getD_eq_getElem?_getD, List.getElem?_eq_getElem hi]
          exact List.getElem_mem _)) (by have := m.ns_len; omega) ((cel.out w6 H4.out.bel).2.2.below h7.out.2)
        have H7 : Hid (Below w6.heap.size w6 w7) := h7.out.2
        clear hLs h7 c0 c1 c2 c3 c4 c5 c6 c7 c8
        go_wp2_with fail
        refine hDc.mono ?_
        clear hDc
        rintro r w8 ⟨v8, rfl, h8⟩
        have o8 : w8.ownsRow w7.heap.size 9 1 v8 (m.ns.map Lib.itoa).length (wsT (m.ns.map Lib.itoa)) := by
          rw [← sL_ns, List.length_map]
          exact h8.out.1
        have z8 : (m.ns.map Lib.itoa).length = 0 → v8 = .slice none 0 0 := by
          rw [List.length_map]
          exact h8.out.2.1
        have H8 : Hid (_) := And.intro o8 (And.intro z8 (H7.out.trans (h8.out.2.2.mono H7.out.size)))
        clear o8 z8 h8 H7
        go_wp2_with (at_builtin; refine wpList_appWs rfl _ _ rfl (m.ns.map Lib.itoa) H4.out H8.out.2.2 H8.out.1 H8.out.2.1 rfl rfl (by have := m.w_len; omega) (by have := m.ns_len; rw [List.length_map]; omega) ?_)
        intro v9 w9 h9
        have HLn := Mv.line_lenL HW.out.2.2.2.2 (fun h => by have := HLk.out h; omega)
        have H9 : Hid (Wd W w9 v9 m.ws) := by
          show Wd W w9 v9 m.ws
          unfold Mv.ws Mv.w4
          simpa using h9.out
        clear h9 H8
        obtain ⟨g9, c9, e9⟩ := H9.out.len HLn.2.2
        rw [e9] at H9 ⊢
        clear e9
        have hJ := pjoin (w := w9) m.ws H9.out.own (by have := HLn.2.1; omega) (by have := HLn.1; show m.line.length ≤ _; omega)
        have HN : Hid (_) := HLn
        clear HLn
        go_wp2_with fail
        refine hJ.mono ?_
        rintro r w10 ⟨rfl, b10⟩
        have H10 : Hid (Below w9.heap.size w9 w10) := b10
        clear b10 hJ
        go_wp2_with fail
        go_ret2
        have b9 := H9.out.bel
        exact ⟨rfl, HW.out.1.trans ((b9.mono HW.out.1.size).trans (H10.out.mono (Nat.le_trans HW.out.1.size b9.size)))⟩
  · rw [if_neg hE]
    have gE : (m.err == 0) = false := by simpa using hE
    go_enter Tryd.func19, Tryd.ntmps19
    go_wp2_with fail
    try rw [hW]
    clear hW
    refine hRf.mono ?_
    rintro r w1 ⟨rfl, b1⟩
    have HB1 : Hid (_) := b1
    clear hRf c0 c1 c2 c3 c4 c5 c6 c7 c8 b1
    go_wp2_with fail
    go_ret2
    exact ⟨rfl, HW.out.1.trans (HB1.out.mono HW.out.1.size)⟩
end Go.Proofs.YtnmnjcjfgbpkaaaDoor
namespace Go.Proofs.YtnmnjcjfgbpkaaaDoor
set_option maxRecDepth 100000
open Go.RowKit Go.Maps
set_option maxRecDepth 100000
/-- These cells, laid from o on in block b. -/
def setA (w : World) (b o : Nat) (A : Array Value) : World := w.setCells b o A.toList
theorem wpList_loadA {P : Program} {ops : Array Oper} {rest : List Oper} {op : Oper} {a : Act} {w : World} {Q : Exit → Act → World → Prop} (hgd : op.guard = none) (ty : TypeId) (x : Operand) (ho : op.op = .load ty x)
    (b o : Nat) (hx : a.eval x = .pointer (some ⟨b, o, none⟩)) (A : Array Value) (d : TypeDesc) (hc : w.rangeAt b o A.toList)
    (hu : P.underlying ty = some d) (hd : d.isRow = true) (hi : (P.info? ty).map (·.size) = some A.size)
    (h : wpList P ops Q rest (a.put op.dst (.agg A)) w) : wpList P ops Q (op :: rest) a w :=
  wpList_load_mid hgd ty x ho b o hx A.toList d hc hu hd (by simpa using hi) (by simpa using h)
theorem wpList_storeA {P : Program} {ops : Array Oper} {rest : List Oper} {op : Oper} {a : Act} {w : World} {Q : Exit → Act → World → Prop} (hgd : op.guard = none) (ty : TypeId) (x y : Operand) (ho : op.op = .store ty x y)
    (b o : Nat) (A : Array Value) (hx : a.eval x = .pointer (some ⟨b, o, none⟩)) (hy : a.eval y = .agg A)
    (ht : w.there b o A.size) (hi : (P.info? ty).map (·.size) = some A.size) (h1 : A.all (·.oneCell') = true)
    (h : wpList P ops Q rest (a.put op.dst undef) (setA w b o A)) : wpList P ops Q (op :: rest) a w :=
  wpList_store_mid hgd ty x y ho b o A hx hy ht hi h1 h
theorem wpList_buildA {P : Program} {ops : Array Oper} {rest : List Oper} {op : Oper} {a : Act} {w w' : World} {Q : Exit → Act → World → Prop} (hgd : op.guard = none) (t : TypeId) (x : Operand) (ho : op.op = .buildSlice t 1 #[(0, x)]) (A v : Value) (hx : a.eval x = A)
    (hrun : (Instr.buildSlice t 1 #[(0, A)]).run P w = .ok v w') (h : wpList P ops Q rest (a.put op.dst v) w') : wpList P ops Q (op :: rest) a w :=
  wpList_plain hgd fun _ hK => by
    unfold Oper.wp execOp
    simp only [ho, Sem.run_bind, Sem.run_pure, Result.andThen_ok, List.map_toArray, List.map_cons, List.map_nil, hx, hrun]
    exact hK _ _ h
theorem storeA_run {P : Program} {w : World} {b o : Nat} {A : Array Value} (ht : w.there b o A.size) (h1 : A.all (·.oneCell') = true) : (storeCells ⟨b, o, none⟩ A.toList).run P w = .ok () (setA w b o A) := by
  have := run_storeCells_cells (P := P) b o A.toList 0 w (fun j hj => by simpa using (ht j (by simpa using hj)).1) (fun j hj => by simpa using (ht j (by simpa using hj)).2)
    (fun v hv => (Array.all_eq_true_iff_forall_mem.1 h1) v (by simpa using hv))
  simp only [Nat.add_zero] at this
  exact this
theorem rangeB {w w' : World} {b o : Nat} {cs : List Value} (h : w.rangeAt b o cs) (hb : Below w.heap.size w w') : w'.rangeAt b o cs := fun j v hv => cellB (h j v hv) hb
theorem range_part {w : World} {b o : Nat} {cs : List Value} (h : w.rangeAt b o cs) (k n : Nat) : w.rangeAt b (o + k) ((cs.drop k).take n) := fun j v hv => by
  have hj : j < n := by
    by_cases q : j < n
    · exact q
    · rw [List.getElem?_eq_none (by simp; omega)] at hv
      cases hv
  rw [List.getElem?_take_of_lt hj, List.getElem?_drop] at hv
  rw [Nat.add_assoc]
  exact h (k + j) v hv
theorem setA_tape (b : Nat) : ∀ (vs : List Value) (o : Nat) (w : World), (w.setCells b o vs).tape = w.tape ∧ (w.setCells b o vs).heap.size = w.heap.size
  | [], _, _ => ⟨rfl, rfl⟩
  | v :: vs, o, w => by
    have h := setA_tape b vs (o + 1) (w.setCell ⟨b, o, none⟩ v)
    have e : (w.setCell ⟨b, o, none⟩ v).heap.size = w.heap.size := by simp [World.setCell]
    rw [e] at h
    exact h
/-- A block that is new is written. -/
theorem setA_below {w wz : World} {g o : Nat} {A : Array Value} (h : Below w.heap.size w wz) (hg : w.heap.size ≤ g) : Below w.heap.size w (setA wz g o A) :=
  h.trans ⟨World.os_setCells _ _ _ _, (setA_tape _ _ _ _).1, World.output_setCells _ _ _ _, by rw [show (setA wz g o A).heap.size = wz.heap.size from (setA_tape _ _ _ _).2]; exact Nat.le_refl _, fun k hk => World.heap_setCells_other _ _ _ _ (by have := h.size; omega) (by omega)⟩
theorem there_new (w : World) (Z : Array Value) (T : TypeId) : (w.alloc (.cells Z T)).there w.heap.size 0 Z.size := fun j hj => by
  rw [Nat.zero_add]
  have hk := heap_alloc_new w (.cells Z T)
  refine ⟨?_, frozen_of_row _ _ j _ _ hk⟩
  rw [cell_of_row _ _ j _ _ _ hk, Array.getElem?_eq_getElem hj]
  rfl
theorem range_new (w : World) (Z : Array Value) (T : TypeId) : (w.alloc (.cells Z T)).rangeAt w.heap.size 0 Z.toList := fun j v hv => by
  rw [Nat.zero_add, cell_of_row _ _ j _ _ _ (heap_alloc_new w (.cells Z T)), ← hv, Array.getElem?_toList]
theorem range_setA {w : World} {b o : Nat} {A : Array Value} (ht : w.there b o A.size) : (setA w b o A).rangeAt b o A.toList := World.rangeAt_setCells_same w b o A.toList (by simpa using ht)
end Go.Proofs.YtnmnjcjfgbpkaaaDoor
namespace Go.Proofs.YtnmnjcjfgbpkaaaDoor
set_option maxRecDepth 100000
open Go.RowKit Go.Maps
set_option maxRecDepth 100000
/-- A set's cells; is it lawful? -/
def Ps.cs (p : Ps) : List Value := [.int .u32 (p.c : Nat), .int .i64 p.o, .int .i64 p.i, .int .i64 p.t, .int .u32 (p.n : Nat)]
def Ps.law (p : Ps) : Bool := decide (okP p.c p.o p.i p.t p.n)
/-- Sets in a list. -/
def PsRow (w : World) (a : Option Addr) (len : Nat) (P : Nat → Ps) : Prop := ∀ i, i < len → ∃ b off, a = some ⟨b, off, none⟩ ∧ w.rangeAt b (off + i * 5) (P i).cs
theorem PsRow.below {w w' : World} {a : Option Addr} {len : Nat} {P : Nat → Ps} (h : PsRow w a len P) (b : Below w.heap.size w w') : PsRow w' a len P := fun i hi => by
  obtain ⟨q, off, e, c⟩ := h i hi
  exact ⟨q, off, e, rangeB c b⟩
def allLaw (P : Nat → Ps) : Nat → Bool
  | 0 => true
  | n + 1 => allLaw P n && (P n).law
theorem allLaw_less {P : Nat → Ps} {n m : Nat} (h : allLaw P n = false) (hm : n ≤ m) : allLaw P m = false := by
  induction m with
  | zero =>
    obtain rfl : n = 0 := by omega
    exact h
  | succ m ih =>
    by_cases e : n = m + 1
    · subst e; exact h
    · simp [allLaw, ih (by omega)]
theorem allLaw_all {P : Nat → Ps} : ∀ {n : Nat}, allLaw P n = true → ∀ i, i < n → (P i).law = true
  | 0, _, i, hi => by omega
  | n + 1, h, i, hi => by
    simp only [allLaw, Bool.and_eq_true] at h
    by_cases e : i = n
    · subst e; exact h.2
    · exact allLaw_all h.1 i (by omega)
theorem size_par : (Tryd.prog.info? 50).map (·.size) = some 5 := by kernel_rfl
theorem pcheck (p : Ps) (w : World) : Calls Tryd.prog 51 #[.agg #[.int .u32 (p.c : Nat), .int .i64 p.o, .int .i64 p.i, .int .i64 p.t, .int .u32 (p.n : Nat)]] w fun e w' => e = .returned (.int .i64 (if p.law then 0 else 90)) ∧ Below w.heap.size w w' := by
  refine check_any p.c p.o p.i p.t p.n w _ ?_
  unfold Ps.law
  by_cases h : okP p.c p.o p.i p.t p.n
  · simp [h]
  · simp [h]
set_option maxHeartbeats 1000000 in
theorem plawful (a : Option Addr) (len cap : Nat) (P : Nat → Ps) (w : World) (hr : PsRow w a len P) (hlen : len ≤ 1000000) : Calls Tryd.prog 26 #[.slice a len cap] w fun r w' => r = .returned (.bool (allLaw P len)) ∧ Below w.heap.size w w' := by
  have HW : Hid (PsRow w a len P) := hr
  clear hr
  go_enter Tryd.func26, Tryd.ntmps26
  go_wp2_with fail
  go_loopw [2, 4, 7, 8, 9, 10, 11, 12, 13, 14] (fun _ _ c _ _ _ _ _ _ _ wr => ∃ i : Nat, i ≤ len ∧ c = .int .i64 ((i : Nat) : Int) ∧ Hid (allLaw P i = true ∧ Below w.heap.size w wr)) (fun _ _ c _ _ _ _ _ _ _ _ => len - natV c)
  case atStart => exact ⟨0, by omega, rfl, rfl, Below.refl _ _⟩
  case round =>
    obtain ⟨i, hi, rfl, HI⟩ := hrel
    by_cases hlt : i < len
    rotate_left
    · obtain rfl : i = len := by omega
      have hlt' : ¬ ((i : Nat) : Int) < ((i : Nat) : Int) := by omega
      go_wp2_with fail
      go_ret
      exact ⟨by rw [HI.out.1] <;> rfl, HI.out.2⟩
    have hlt' : ((i : Nat) : Int) < ((len : Nat) : Int) := by omega
    have hw1 : IntKind.i64.wrap (((i : Nat) : Int) + 1) = ((i + 1 : Nat) : Int) := by rw [IntKind.wrap_i64]; omega
    obtain ⟨q, off, ea, cc⟩ := (PsRow.below HW.out HI.out.2) i hlt
    subst ea
    obtain ⟨p, hP⟩ : ∃ y, P i = y := ⟨_, rfl⟩
    rw [hP] at cc
    have c0 : wr.cell? ⟨q, off + i * 5, none⟩ = some (.int .u32 (p.c : Nat)) := cc 0 _ rfl
    have c1 : wr.cell? ⟨q, off + i * 5 + 1, none⟩ = some (.int .i64 p.o) := cc 1 _ rfl
    have c2 : wr.cell? ⟨q, off + i * 5 + 2, none⟩ = some (.int .i64 p.i) := cc 2 _ rfl
    have c3 : wr.cell? ⟨q, off + i * 5 + 3, none⟩ = some (.int .i64 p.t) := cc 3 _ rfl
    have c4 : wr.cell? ⟨q, off + i * 5 + 4, none⟩ = some (.int .u32 (p.n : Nat)) := cc 4 _ rfl
    have HP : Hid (_) := hP
    clear cc hP
    have hC := pcheck p (wr.alloc (.cells #[.int .u32 (p.c : Nat), .int .i64 p.o, .int .i64 p.i, .int .i64 p.t, .int .u32 (p.n : Nat)] 50))
    have bA := belA HI.out.2 (.cells #[.int .u32 (p.c : Nat), .int .i64 p.o, .int .i64 p.i, .int .i64 p.t, .int .u32 (p.n : Nat)] 50)
    have HB : Hid (_) := bA
    clear bA
    cases hl : p.law with
    | true =>
      rw [hl] at hC
      have HN : Hid (allLaw P (i + 1) = true) := by
        show allLaw P (i + 1) = true
        simp [allLaw, HI.out.1, HP.out, hl]
      simp only [if_true] at hC
      clear hl
      go_wp2_with fail
      refine hC.mono ?_
      rintro r w2 ⟨rfl, b2⟩
      have HF : Hid (allLaw P (i + 1) = true ∧ Below w.heap.size w w2) := ⟨HN.out, HB.out.trans (b2.mono HB.out.size)⟩
      clear hC b2 c0 c1 c2 c3 c4
      go_wp2_with fail
      go_roundw
      case rel => exact ⟨i + 1, by omega, by first | rfl | go_num, HF⟩
      case measure => simp [natV] <;> omega
    | false =>
      rw [hl] at hC
      have HN : Hid (allLaw P len = false) := allLaw_less (n := i + 1) (by simp [allLaw, HP.out, hl]) (by omega)
      simp only [Bool.false_eq_true, if_false] at hC
      clear hl
      go_wp2_with fail
      refine hC.mono ?_
      rintro r w2 ⟨rfl, b2⟩
      have HF : Hid (Below w.heap.size w w2) := HB.out.trans (b2.mono HB.out.size)
      clear hC b2 c0 c1 c2 c3 c4
      go_wp2_with fail
      go_ret
      exact ⟨by rw [HN.out] <;> rfl, HF.out⟩
end Go.Proofs.YtnmnjcjfgbpkaaaDoor
namespace Go.Proofs.YtnmnjcjfgbpkaaaDoor
set_option maxRecDepth 100000
open Go.RowKit

theorem held_call {P : Program} {md : Region.Mode} {ops : Array Oper} {Q : Exit → Act → World → Prop} {S : World → Prop} {fuel : Nat} {l : Array Bool} {a : Act} {w : World} {i : Nat} {o : Oper} (f : FuncId) (args : Array Value) (hr : Region.ready md ops l = [i]) (ho : ops[i]? = some o)
    (hw : Region.wanted o (yielded ops a.tmps) = true) (hrun : (execOp a.eval o).run P w = .ok (.enter f args) w)
    (hc : Calls P f args w fun e w'' => ∃ v, e = .returned v ∧ (S w'' ∧ wpAnyH P md ops Q S fuel (l.setIfInBounds i true) (a.put o.dst v) w'')) : wpAnyH P md ops Q S (fuel + 1) l a w :=
  wpAnyH_all hr (by simp) (fun j hj => by
    obtain rfl := List.mem_singleton.1 hj
    exact any_call f args ho hw hrun hc)
theorem held_val {P : Program} {md : Region.Mode} {ops : Array Oper} {Q : Exit → Act → World → Prop} {S : World → Prop} {fuel : Nat} {l : Array Bool} {a : Act} {w : World} {i : Nat} {o : Oper} (v : Value) (hr : Region.ready md ops l = [i]) (ho : ops[i]? = some o)
    (hw : Region.wanted o (yielded ops a.tmps) = true) (hrun : (execOp a.eval o).run P w = .ok (.value v) w) (hS : S w)
    (h : wpAnyH P md ops Q S fuel (l.setIfInBounds i true) (a.put o.dst v) w) : wpAnyH P md ops Q S (fuel + 1) l a w :=
  wpAnyH_all hr (by simp) (fun j hj => by
    obtain rfl := List.mem_singleton.1 hj
    exact any_val v w ho hw hrun ⟨hS, h⟩)
/-- An operation that yields nothing and turns the world, where nothing else may come up. -/
theorem held_skip {P : Program} {md : Region.Mode} {ops : Array Oper} {Q : Exit → Act → World → Prop} {S : World → Prop} {fuel : Nat} {l : Array Bool} {a : Act} {w : World} {i : Nat} {o : Oper} (w' : World) (hr : Region.ready md ops l = [i]) (ho : ops[i]? = some o)
    (hw : Region.wanted o (yielded ops a.tmps) = true) (hrun : (execOp a.eval o).run P w = .ok .skip w') (hS : S w')
    (h : wpAnyH P md ops Q S fuel (l.setIfInBounds i true) (a.put o.dst undef) w') : wpAnyH P md ops Q S (fuel + 1) l a w :=
  wpAnyH_all hr (by simp) (fun j hj => by
    obtain rfl := List.mem_singleton.1 hj
    unfold wpOp
    simp only [ho, hw, if_true]
    refine .inl ?_
    unfold Oper.wp
    rw [hrun]
    exact ⟨hS, h⟩)
theorem held_at {P : Program} {md : Region.Mode} {ops : Array Oper} {Q : Exit → Act → World → Prop} {S : World → Prop} {fuel : Nat} {l l' : Array Bool} {a a' : Act} {w : World} (ha : a = a') (hl : l = l') (h : wpAnyH P md ops Q S fuel l' a' w) : wpAnyH P md ops Q S fuel l a w := by rw [ha, hl]; exact h
end Go.Proofs.YtnmnjcjfgbpkaaaDoor
namespace Go.Proofs.YtnmnjcjfgbpkaaaDoor
set_option maxRecDepth 100000
open Go.RowKit Go.Maps Go.Sort
set_option maxRecDepth 100000
abbrev Pg := Ps
theorem belowG {w0 w : World} (h : Below w0.heap.size w0 w) (o : Obj) : Below w0.heap.size w0 (w.alloc o) := h.alloc h.size o
/-- The sets of a net, a list in memory. -/
def PRow (w : World) (a : Option Addr) (len : Nat) (P : Nat → Pg) : Prop := ∀ i, i < len → ∃ q off, a = some ⟨q, off, none⟩ ∧ w.cell? ⟨q, off + i * 5, none⟩ = some (.int .u32 ((P i).c : Nat)) ∧ w.cell? ⟨q, off + i * 5 + 1, none⟩ = some (.int .i64 (P i).o) ∧ w.cell? ⟨q, off + i * 5 + 2, none⟩ = some (.int .i64 (P i).i) ∧ w.cell? ⟨q, off + i * 5 + 3, none⟩ = some (.int .i64 (P i).t) ∧ w.cell? ⟨q, off + i * 5 + 4, none⟩ = some (.int .u32 ((P i).n : Nat))
theorem PRow.below {w w' : World} {a : Option Addr} {len : Nat} {P : Nat → Pg} (h : PRow w a len P) (b : Below w.heap.size w w') : PRow w' a len P := fun i hi => by
  obtain ⟨q, off, e, c0, c1, c2, c3, c4⟩ := h i hi
  exact ⟨q, off, e, cellB c0 b, cellB c1 b, cellB c2 b, cellB c3 b, cellB c4 b⟩
def pgL (p : Pg) : List Value := [.int .u32 (p.c : Nat), .int .i64 p.o, .int .i64 p.i, .int .i64 p.t, .int .u32 (p.n : Nat)]
theorem pgL_one (p : Pg) : ∀ u ∈ pgL p, u.oneCell' = true := by
  intro u hu
  simp [pgL] at hu
  rcases hu with rfl | rfl | rfl | rfl | rfl <;> rfl
def flP (k : Nat) (P : Nat → Pg) : List Value := (List.range k).flatMap fun i => pgL (P i)
theorem flP_succ (k : Nat) (P : Nat → Pg) : flP (k + 1) P = flP k P ++ pgL (P k) := by
  unfold flP
  rw [List.range_succ, List.flatMap_append]
  simp
theorem flP_len (k : Nat) (P : Nat → Pg) : (flP k P).length = k * 5 := by
  induction k with
  | zero => rfl
  | succ k ih =>
    rw [flP_succ, List.length_append, ih]
    simp [pgL]
    omega
theorem flP_get (k : Nat) (P : Nat → Pg) (i j : Nat) (hi : i < k) (hj : j < 5) : (flP k P)[i * 5 + j]? = (pgL (P i))[j]? := by
  induction k with
  | zero => omega
  | succ k ih =>
    rw [flP_succ]
    by_cases e : i < k
    · rw [List.getElem?_append_left (by rw [flP_len]; omega), ih e]
    · obtain rfl : i = k := by omega
      rw [List.getElem?_append_right (by rw [flP_len]; omega), flP_len]
      congr 1
      omega
/-- Out of a list of sets of our own. -/
theorem PRow.of_own {w : World} {B k : Nat} {a : Option Addr} {cap : Nat} {P : Nat → Pg} (o : w.ownsRow B 50 5 (.slice a k cap) k (flP k P)) : PRow w a k P := fun i hi => by
  rcases o.2 with ⟨_, hn⟩ | ⟨g, cap', cur, e, hg, hgg, h1, h2, h3, h4⟩
  · omega
  · simp only [Value.slice.injEq] at e
    obtain ⟨rfl, _, rfl⟩ := e
    have cl : ∀ j, j < 5 → w.cell? ⟨g, 0 + i * 5 + j, none⟩ = (pgL (P i))[j]? := fun j hj => by
      rw [Nat.zero_add, cell_of_row w g (i * 5 + j) _ _ _ hgg, ← flP_get k P i j hi hj, ← h4, List.getElem?_take_of_lt (by omega), Array.getElem?_toList]
    exact ⟨g, 0, rfl, cl 0 (by omega), cl 1 (by omega), cl 2 (by omega), cl 3 (by omega), cl 4 (by omega)⟩
theorem own_slcP {w : World} {B e size n : Nat} {v : Value} {xs : List Value} (h : w.ownsRow B e size v (n + 1) xs) : ∃ g cap, v = .slice (some ⟨g, 0, none⟩) (n + 1) cap ∧ B ≤ g := by
  rcases h.2 with ⟨_, hn⟩ | ⟨g, cap, cur, rfl, hg, hgg, rest⟩
  · omega
  · exact ⟨g, cap, rfl, hg⟩
theorem own_belowP {w w' : World} {B e sz n : Nat} {v : Value} {xs : List Value} (h : w.ownsRow B e sz v n xs) (b : Below w.heap.size w w') : w'.ownsRow B e sz v n xs := by
  refine ⟨h.1, ?_⟩
  rcases h.2 with hn | ⟨g, cap, cur, rfl, hg, hgg, rest⟩
  · exact .inl hn
  · exact .inr ⟨g, cap, cur, rfl, hg, (b.block g (Array.getElem?_eq_some_iff.1 hgg).1).trans hgg, rest⟩
theorem own_keepP {w w' : World} {B e s n : Nat} {v : Value} {xs : List Value} (h : w.ownsRow B e s v n xs) (hk : ∀ g, v.ownBlock = some g → w'.heap[g]? = w.heap[g]?) : w'.ownsRow B e s v n xs := by
  obtain ⟨h0, h1 | ⟨g, cap, cur, rfl, hg, hgg, rest⟩⟩ := h
  · exact ⟨h0, .inl h1⟩
  · exact ⟨h0, .inr ⟨g, cap, cur, rfl, hg, (hk g rfl).trans hgg, rest⟩⟩
theorem pg_cells {W : World} {g : Nat} {p : Pg} (h : W.heap[g]? = some (.cells (pgL p).toArray 50 (0, 0))) : ∀ j u, (pgL p)[j]? = some u → W.cell? ((⟨g, 0, none⟩ : Addr).add j) = some u := fun j u hu => by
  have e : (Addr.add ⟨g, 0, none⟩ j) = ⟨g, j, none⟩ := by unfold Addr.add; simp; omega
  rw [e, cell_of_row W g j _ _ _ h]
  simpa using hu
theorem info_par : (Tryd.prog.info? 50).map (fun i => (i.zero, i.size, i.bytes)) = some (some (.agg #[.int .u32 0, .int .i64 0, .int .i64 0, .int .i64 0, .int .u32 0]), 5, 40) := by kernel_rfl
theorem PsRow.prow {w : World} {a : Option Addr} {len : Nat} {P : Nat → Ps} (h : PsRow w a len P) : PRow w a len P := fun i hi => by
  obtain ⟨q, off, e, c⟩ := h i hi
  exact ⟨q, off, e, c 0 _ rfl, c 1 _ rfl, c 2 _ rfl, c 3 _ rfl, c 4 _ rfl⟩
theorem PRow.psrow {w : World} {a : Option Addr} {len : Nat} {P : Nat → Ps} (h : PRow w a len P) : PsRow w a len P := fun i hi => by
  obtain ⟨q, off, e, c0, c1, c2, c3, c4⟩ := h i hi
  refine ⟨q, off, e, fun j u hu => ?_⟩
  have hj : j < 5 := (List.getElem?_eq_some_iff.1 hu).1
  have : j = 0 ∨ j = 1 ∨ j = 2 ∨ j = 3 ∨ j = 4 := by omega
  rcases this with rfl | rfl | rfl | rfl | rfl
  all_goals simp [Ps.cs] at hu
  all_goals subst hu
  · exact c0
  · exact c1
  · exact c2
  · exact c3
  · exact c4
end Go.Proofs.YtnmnjcjfgbpkaaaDoor
