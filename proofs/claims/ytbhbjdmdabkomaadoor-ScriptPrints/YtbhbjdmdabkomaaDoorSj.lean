/- Layer 20: the document's fault. (gensj.py) -/
import Derived.Test.YtbhbjdmdabkomaaDoorSi
namespace Go.Proofs.YtbhbjdmdabkomaaDoor
set_option maxRecDepth 100000
open Go.RowKit Go.Maps
set_option maxRecDepth 100000
set_option linter.unusedSimpArgs false
set_option linter.unusedVariables false
theorem rsided (k : Int) (w : World) : Calls Tryd.prog 60 #[.int .i64 k] w fun r w' => r = .returned (.bool (sided k)) ∧ w' = w := by
  unfold sided
  by_cases h2 : k = 2
  · subst h2
    go_enter Tryd.func60, Tryd.ntmps60
    go_wp2_with fail
    go_ret
    exact ⟨rfl, rfl⟩
  · have g : (k != 2) = true := by simpa using h2
    rw [g]
    obtain ⟨X, hX⟩ : ∃ x, (k != 8) = x := ⟨_, rfl⟩
    rw [hX]
    go_enter Tryd.func60, Tryd.ntmps60
    go_wp2_with fail
    go_ret
    exact ⟨rfl, rfl⟩
theorem rbad_yes (z : Int) (h : fitI z = false) (w : World) : Calls Tryd.prog 91 #[.int .i64 z] w fun r w' => r = .returned (.bool true) ∧ w' = w := by
  unfold fitI at h
  by_cases h0 : z < 0
  · clear h
    go_enter Tryd.func91, Tryd.ntmps91
    go_wp2_with fail
    go_ret
    exact ⟨rfl, rfl⟩
  · have h1 : z > 4294967295 := by simp at h; omega
    clear h
    go_enter Tryd.func91, Tryd.ntmps91
    go_wp2_with fail
    go_ret
    exact ⟨rfl, rfl⟩
theorem rbad_no (z : Int) (h : fitI z = true) (w : World) : Calls Tryd.prog 91 #[.int .i64 z] w fun r w' => r = .returned (.bool false) ∧ w' = w := by
  unfold fitI at h
  have h0 : ¬ z < 0 := by simp at h; omega
  have h1 : ¬ z > 4294967295 := by simp at h; omega
  clear h
  go_enter Tryd.func91, Tryd.ntmps91
  go_wp2_with fail
  go_ret
  exact ⟨rfl, rfl⟩
theorem fit_w {m : Mv} (h : m.Ok) : fitI ((m.w : Nat) : Int) = true := by
  have := h.w
  unfold fitI
  simp
  omega
set_option maxHeartbeats 2000000 in
theorem rfault1 (m : Mv) (hm : m.Ok) (hk : m.k = 1) (d : Option Addr) (e : Nat) (w : World) (hl : m.l ≤ 140737488355328) : Calls Tryd.prog 58 #[.agg #[.int .i64 m.k, .int .i64 m.c, .int .i64 m.s, .int .i64 m.f, .int .i64 m.a, .int .u32 (m.w : Nat), .int .i64 m.n, .bool m.h, .slice d m.l e]] w fun r w' => r = .returned (.int .i64 m.err) ∧ Below w.heap.size w w' := by
  obtain ⟨W, hW⟩ : ∃ W : World, w.alloc (.cells #[.int .i64 m.k, .int .i64 m.c, .int .i64 m.s, .int .i64 m.f, .int .i64 m.a, .int .u32 (m.w : Nat), .int .i64 m.n, .bool m.h, .slice d m.l e] 29) = W := ⟨_, rfl⟩
  have bW : Below w.heap.size w W := by rw [← hW]; exact belA (Below.refl _ _) _
  have mW : MvW W w.heap.size m d e := by rw [← hW]; exact MvW.new w m d e
  obtain ⟨c0, c1, c2, c3, c4, c5, c6, c7, c8⟩ := mW.cells
  have HB : Hid (_) := bW
  have fw := fit_w hm
  have HFW : Hid (_) := fw
  obtain ⟨E, hE⟩ : ∃ x, m.err = x := ⟨_, rfl⟩
  rw [hE]
  have HE : Hid (m.err = E) := hE
  have HK : Hid (_) := hk
  have e1 : (m.k == 1) = true := by simpa using hk
  have e2 : (m.k == 2) = false := by rw [hk]; rfl
  have e3 : (m.k == 3) = false := by rw [hk]; rfl
  have e4 : (m.k == 4) = false := by rw [hk]; rfl
  have e5 : (m.k == 5) = false := by rw [hk]; rfl
  have e7 : (m.k == 7) = false := by rw [hk]; rfl
  have e8 : (m.k == 8) = false := by rw [hk]; rfl
  have x1 : ¬ m.k < 1 := by omega
  have x2 : ¬ 8 < m.k := by omega
  have x3 : ¬ m.k > 8 := by omega
  have hS := rsided m.k
  rw [show sided m.k = true by rw [hk]; rfl] at hS
  clear hk
  clear hE mW bW fw hm
  go_enter Tryd.func58, Tryd.ntmps58
  go_wp2_with fail
  try rw [hW]
  clear hW
  rcases Bool.eq_false_or_eq_true (fitI m.c) with fc | fc
  rotate_left
  · have hb := rbad_yes m.c fc
    have HFc : Hid (_) := fc
    clear fc
    go_wp2_with fail
    refine (hb _).mono ?_
    rintro r w' ⟨rfl, hw⟩
    rw [hw]
    clear hw w'
    clear hb
    have hv : E = 2 := by
      rw [← HE.out]
      unfold Mv.err Mv.ns sided
      simp [HK.out, HFW.out, HFc.out]
    have HV : Hid (_) := hv
    clear hv
    go_wp2_with fail
    go_ret
    exact ⟨by rw [HV.out]; rfl, HB.out⟩
  · have hb := rbad_no m.c fc
    have HFc : Hid (_) := fc
    clear fc
    go_wp2_with fail
    refine (hb _).mono ?_
    rintro r w' ⟨rfl, hw⟩
    rw [hw]
    clear hw w'
    clear hb
    go_wp2_with fail
    refine (hS _).mono ?_
    rintro r w' ⟨rfl, hw⟩
    rw [hw]
    clear hw w'
    rcases Decidable.em (m.s = 1) with hs | hs
    · rw [hs] at c2
      have HS : Hid (_) := hs
      clear hs
      rcases Decidable.em (8 < m.l) with h8 | h8
      · have g8 : (8 : Int) < ((m.l : Nat) : Int) := by omega
        have H8 : Hid (_) := h8
        clear h8
        have hv : E = 45 := by
          rw [← HE.out]
          unfold Mv.err Mv.ns sided
          simp [HK.out, HFW.out, HFc.out, HS.out, H8.out]
        have HV : Hid (_) := hv
        clear hv
        go_wp2_with fail
        go_ret
        exact ⟨by rw [HV.out]; rfl, HB.out⟩
      · have g8 : ¬ (8 : Int) < ((m.l : Nat) : Int) := by omega
        have H8 : Hid (m.l ≤ 8) := Nat.le_of_not_lt h8
        have e8 : decide ((8 : Int) < ((m.l : Nat) : Int)) = false := decide_eq_false g8
        go_upto_if 76 with fail
        clear g8 h8 hl e1 e2 e3 e4 e5 e7 e8
        have d1 : decide (m.k < 1) = false := decide_eq_false (by have := HK.out; omega)
        have d2 : decide (8 < m.k) = false := decide_eq_false (by have := HK.out; omega)
        clear x1 x2 x3
        have hv : E = 0 := by
          rw [← HE.out]
          unfold Mv.err Mv.ns sided
          simp [HK.out, HFW.out, HFc.out, HS.out, H8.out]
        have HV : Hid (_) := hv
        clear hv
        go_wp2_with fail
        go_ret
        exact ⟨by rw [HV.out]; rfl, HB.out⟩
    rcases Decidable.em (m.s = 2) with ht | ht
    · rw [ht] at c2
      have HS : Hid (_) := ht
      clear hs ht
      rcases Decidable.em (8 < m.l) with h8 | h8
      · have g8 : (8 : Int) < ((m.l : Nat) : Int) := by omega
        have H8 : Hid (_) := h8
        clear h8
        have hv : E = 45 := by
          rw [← HE.out]
          unfold Mv.err Mv.ns sided
          simp [HK.out, HFW.out, HFc.out, HS.out, H8.out]
        have HV : Hid (_) := hv
        clear hv
        go_wp2_with fail
        go_ret
        exact ⟨by rw [HV.out]; rfl, HB.out⟩
      · have g8 : ¬ (8 : Int) < ((m.l : Nat) : Int) := by omega
        have H8 : Hid (m.l ≤ 8) := Nat.le_of_not_lt h8
        have e8 : decide ((8 : Int) < ((m.l : Nat) : Int)) = false := decide_eq_false g8
        go_upto_if 76 with fail
        clear g8 h8 hl e1 e2 e3 e4 e5 e7 e8
        have d1 : decide (m.k < 1) = false := decide_eq_false (by have := HK.out; omega)
        have d2 : decide (8 < m.k) = false := decide_eq_false (by have := HK.out; omega)
        clear x1 x2 x3
        have hv : E = 0 := by
          rw [← HE.out]
          unfold Mv.err Mv.ns sided
          simp [HK.out, HFW.out, HFc.out, HS.out, H8.out]
        have HV : Hid (_) := hv
        clear hv
        go_wp2_with fail
        go_ret
        exact ⟨by rw [HV.out]; rfl, HB.out⟩
    have g1 : (m.s != 1) = true := by simpa using hs
    have g2 : (m.s != 2) = true := by simpa using ht
    have HS : Hid (_) := And.intro hs ht
    clear hs ht
    have hv : E = 172 := by
      rw [← HE.out]
      unfold Mv.err Mv.ns sided
      simp [HK.out, HFW.out, HFc.out, HS.out.1, HS.out.2]
    have HV : Hid (_) := hv
    clear hv
    go_wp2_with fail
    go_ret
    exact ⟨by rw [HV.out]; rfl, HB.out⟩
set_option maxHeartbeats 2000000 in
theorem rfault2 (m : Mv) (hm : m.Ok) (hk : m.k = 2) (d : Option Addr) (e : Nat) (w : World) (hl : m.l ≤ 140737488355328) : Calls Tryd.prog 58 #[.agg #[.int .i64 m.k, .int .i64 m.c, .int .i64 m.s, .int .i64 m.f, .int .i64 m.a, .int .u32 (m.w : Nat), .int .i64 m.n, .bool m.h, .slice d m.l e]] w fun r w' => r = .returned (.int .i64 m.err) ∧ Below w.heap.size w w' := by
  obtain ⟨W, hW⟩ : ∃ W : World, w.alloc (.cells #[.int .i64 m.k, .int .i64 m.c, .int .i64 m.s, .int .i64 m.f, .int .i64 m.a, .int .u32 (m.w : Nat), .int .i64 m.n, .bool m.h, .slice d m.l e] 29) = W := ⟨_, rfl⟩
  have bW : Below w.heap.size w W := by rw [← hW]; exact belA (Below.refl _ _) _
  have mW : MvW W w.heap.size m d e := by rw [← hW]; exact MvW.new w m d e
  obtain ⟨c0, c1, c2, c3, c4, c5, c6, c7, c8⟩ := mW.cells
  have HB : Hid (_) := bW
  have fw := fit_w hm
  have HFW : Hid (_) := fw
  obtain ⟨E, hE⟩ : ∃ x, m.err = x := ⟨_, rfl⟩
  rw [hE]
  have HE : Hid (m.err = E) := hE
  have HK : Hid (_) := hk
  have hS := rsided 2
  rw [show sided 2 = false from rfl] at hS
  rw [hk] at c0
  clear hE mW bW fw hm
  rw [hk] at hW ⊢
  clear hk
  go_enter Tryd.func58, Tryd.ntmps58
  go_wp2_with fail
  try rw [hW]
  clear hW
  rcases Bool.eq_false_or_eq_true (fitI m.c) with fc | fc
  rotate_left
  · have hb := rbad_yes m.c fc
    have HFc : Hid (_) := fc
    clear fc
    go_wp2_with fail
    refine (hb _).mono ?_
    rintro r w' ⟨rfl, hw⟩
    rw [hw]
    clear hw w'
    clear hb
    have hv : E = 2 := by
      rw [← HE.out]
      unfold Mv.err Mv.ns sided
      simp [HK.out, HFW.out, HFc.out]
    have HV : Hid (_) := hv
    clear hv
    go_wp2_with fail
    go_ret
    exact ⟨by rw [HV.out]; rfl, HB.out⟩
  · have hb := rbad_no m.c fc
    have HFc : Hid (_) := fc
    clear fc
    go_wp2_with fail
    refine (hb _).mono ?_
    rintro r w' ⟨rfl, hw⟩
    rw [hw]
    clear hw w'
    clear hb
    go_wp2_with fail
    refine (hS _).mono ?_
    rintro r w' ⟨rfl, hw⟩
    rw [hw]
    clear hw w'
    have hv : E = 0 := by
      rw [← HE.out]
      unfold Mv.err Mv.ns sided
      simp [HK.out, HFW.out, HFc.out]
    have HV : Hid (_) := hv
    clear hv
    go_wp2_with fail
    go_ret
    exact ⟨by rw [HV.out]; rfl, HB.out⟩
set_option maxHeartbeats 2000000 in
theorem rfault3 (m : Mv) (hm : m.Ok) (hk : m.k = 3) (d : Option Addr) (e : Nat) (w : World) (hl : m.l ≤ 140737488355328) : Calls Tryd.prog 58 #[.agg #[.int .i64 m.k, .int .i64 m.c, .int .i64 m.s, .int .i64 m.f, .int .i64 m.a, .int .u32 (m.w : Nat), .int .i64 m.n, .bool m.h, .slice d m.l e]] w fun r w' => r = .returned (.int .i64 m.err) ∧ Below w.heap.size w w' := by
  obtain ⟨W, hW⟩ : ∃ W : World, w.alloc (.cells #[.int .i64 m.k, .int .i64 m.c, .int .i64 m.s, .int .i64 m.f, .int .i64 m.a, .int .u32 (m.w : Nat), .int .i64 m.n, .bool m.h, .slice d m.l e] 29) = W := ⟨_, rfl⟩
  have bW : Below w.heap.size w W := by rw [← hW]; exact belA (Below.refl _ _) _
  have mW : MvW W w.heap.size m d e := by rw [← hW]; exact MvW.new w m d e
  obtain ⟨c0, c1, c2, c3, c4, c5, c6, c7, c8⟩ := mW.cells
  have HB : Hid (_) := bW
  have fw := fit_w hm
  have HFW : Hid (_) := fw
  obtain ⟨E, hE⟩ : ∃ x, m.err = x := ⟨_, rfl⟩
  rw [hE]
  have HE : Hid (m.err = E) := hE
  have HK : Hid (_) := hk
  have hS := rsided 3
  rw [show sided 3 = true from rfl] at hS
  rw [hk] at c0
  clear hE mW bW fw hm
  rw [hk] at hW ⊢
  clear hk
  go_enter Tryd.func58, Tryd.ntmps58
  go_wp2_with fail
  try rw [hW]
  clear hW
  rcases Bool.eq_false_or_eq_true (fitI m.c) with fc | fc
  rotate_left
  · have hb := rbad_yes m.c fc
    have HFc : Hid (_) := fc
    clear fc
    go_wp2_with fail
    refine (hb _).mono ?_
    rintro r w' ⟨rfl, hw⟩
    rw [hw]
    clear hw w'
    clear hb
    have hv : E = 2 := by
      rw [← HE.out]
      unfold Mv.err Mv.ns sided
      simp [HK.out, HFW.out, HFc.out]
    have HV : Hid (_) := hv
    clear hv
    go_wp2_with fail
    go_ret
    exact ⟨by rw [HV.out]; rfl, HB.out⟩
  · have hb := rbad_no m.c fc
    have HFc : Hid (_) := fc
    clear fc
    go_wp2_with fail
    refine (hb _).mono ?_
    rintro r w' ⟨rfl, hw⟩
    rw [hw]
    clear hw w'
    clear hb
    rcases Bool.eq_false_or_eq_true (fitI m.f) with ff | ff
    rotate_left
    · have hb := rbad_yes m.f ff
      have HFf : Hid (_) := ff
      clear ff
      go_wp2_with fail
      refine (hb _).mono ?_
      rintro r w' ⟨rfl, hw⟩
      rw [hw]
      clear hw w'
      clear hb
      have hv : E = 2 := by
        rw [← HE.out]
        unfold Mv.err Mv.ns sided
        simp [HK.out, HFW.out, HFc.out, HFf.out]
      have HV : Hid (_) := hv
      clear hv
      go_wp2_with fail
      go_ret
      exact ⟨by rw [HV.out]; rfl, HB.out⟩
    · have hb := rbad_no m.f ff
      have HFf : Hid (_) := ff
      clear ff
      go_wp2_with fail
      refine (hb _).mono ?_
      rintro r w' ⟨rfl, hw⟩
      rw [hw]
      clear hw w'
      clear hb
      go_wp2_with fail
      refine (hS _).mono ?_
      rintro r w' ⟨rfl, hw⟩
      rw [hw]
      clear hw w'
      rcases Decidable.em (m.s = 1) with hs | hs
      · rw [hs] at c2
        have HS : Hid (_) := hs
        clear hs
        have hv : E = 0 := by
          rw [← HE.out]
          unfold Mv.err Mv.ns sided
          simp [HK.out, HFW.out, HFc.out, HFf.out, HS.out]
        have HV : Hid (_) := hv
        clear hv
        go_wp2_with fail
        go_ret
        exact ⟨by rw [HV.out]; rfl, HB.out⟩
      rcases Decidable.em (m.s = 2) with ht | ht
      · rw [ht] at c2
        have HS : Hid (_) := ht
        clear hs ht
        have hv : E = 0 := by
          rw [← HE.out]
          unfold Mv.err Mv.ns sided
          simp [HK.out, HFW.out, HFc.out, HFf.out, HS.out]
        have HV : Hid (_) := hv
        clear hv
        go_wp2_with fail
        go_ret
        exact ⟨by rw [HV.out]; rfl, HB.out⟩
      have g1 : (m.s != 1) = true := by simpa using hs
      have g2 : (m.s != 2) = true := by simpa using ht
      have HS : Hid (_) := And.intro hs ht
      clear hs ht
      have hv : E = 172 := by
        rw [← HE.out]
        unfold Mv.err Mv.ns sided
        simp [HK.out, HFW.out, HFc.out, HFf.out, HS.out.1, HS.out.2]
      have HV : Hid (_) := hv
      clear hv
      go_wp2_with fail
      go_ret
      exact ⟨by rw [HV.out]; rfl, HB.out⟩
set_option maxHeartbeats 2000000 in
theorem rfault4 (m : Mv) (hm : m.Ok) (hk : m.k = 4) (d : Option Addr) (e : Nat) (w : World) (hl : m.l ≤ 140737488355328) : Calls Tryd.prog 58 #[.agg #[.int .i64 m.k, .int .i64 m.c, .int .i64 m.s, .int .i64 m.f, .int .i64 m.a, .int .u32 (m.w : Nat), .int .i64 m.n, .bool m.h, .slice d m.l e]] w fun r w' => r = .returned (.int .i64 m.err) ∧ Below w.heap.size w w' := by
  obtain ⟨W, hW⟩ : ∃ W : World, w.alloc (.cells #[.int .i64 m.k, .int .i64 m.c, .int .i64 m.s, .int .i64 m.f, .int .i64 m.a, .int .u32 (m.w : Nat), .int .i64 m.n, .bool m.h, .slice d m.l e] 29) = W := ⟨_, rfl⟩
  have bW : Below w.heap.size w W := by rw [← hW]; exact belA (Below.refl _ _) _
  have mW : MvW W w.heap.size m d e := by rw [← hW]; exact MvW.new w m d e
  obtain ⟨c0, c1, c2, c3, c4, c5, c6, c7, c8⟩ := mW.cells
  have HB : Hid (_) := bW
  have fw := fit_w hm
  have HFW : Hid (_) := fw
  obtain ⟨E, hE⟩ : ∃ x, m.err = x := ⟨_, rfl⟩
  rw [hE]
  have HE : Hid (m.err = E) := hE
  have HK : Hid (_) := hk
  have hS := rsided 4
  rw [show sided 4 = true from rfl] at hS
  rw [hk] at c0
  clear hE mW bW fw hm
  rw [hk] at hW ⊢
  clear hk
  go_enter Tryd.func58, Tryd.ntmps58
  go_wp2_with fail
  try rw [hW]
  clear hW
  rcases Bool.eq_false_or_eq_true (fitI m.c) with fc | fc
  rotate_left
  · have hb := rbad_yes m.c fc
    have HFc : Hid (_) := fc
    clear fc
    go_wp2_with fail
    refine (hb _).mono ?_
    rintro r w' ⟨rfl, hw⟩
    rw [hw]
    clear hw w'
    clear hb
    have hv : E = 2 := by
      rw [← HE.out]
      unfold Mv.err Mv.ns sided
      simp [HK.out, HFW.out, HFc.out]
    have HV : Hid (_) := hv
    clear hv
    go_wp2_with fail
    go_ret
    exact ⟨by rw [HV.out]; rfl, HB.out⟩
  · have hb := rbad_no m.c fc
    have HFc : Hid (_) := fc
    clear fc
    go_wp2_with fail
    refine (hb _).mono ?_
    rintro r w' ⟨rfl, hw⟩
    rw [hw]
    clear hw w'
    clear hb
    rcases Bool.eq_false_or_eq_true (fitI m.f) with ff | ff
    rotate_left
    · have hb := rbad_yes m.f ff
      have HFf : Hid (_) := ff
      clear ff
      go_wp2_with fail
      refine (hb _).mono ?_
      rintro r w' ⟨rfl, hw⟩
      rw [hw]
      clear hw w'
      clear hb
      have hv : E = 2 := by
        rw [← HE.out]
        unfold Mv.err Mv.ns sided
        simp [HK.out, HFW.out, HFc.out, HFf.out]
      have HV : Hid (_) := hv
      clear hv
      go_wp2_with fail
      go_ret
      exact ⟨by rw [HV.out]; rfl, HB.out⟩
    · have hb := rbad_no m.f ff
      have HFf : Hid (_) := ff
      clear ff
      go_wp2_with fail
      refine (hb _).mono ?_
      rintro r w' ⟨rfl, hw⟩
      rw [hw]
      clear hw w'
      clear hb
      rcases Bool.eq_false_or_eq_true (fitI m.a) with fa | fa
      rotate_left
      · have hb := rbad_yes m.a fa
        have HFa : Hid (_) := fa
        clear fa
        go_wp2_with fail
        refine (hb _).mono ?_
        rintro r w' ⟨rfl, hw⟩
        rw [hw]
        clear hw w'
        clear hb
        have hv : E = 2 := by
          rw [← HE.out]
          unfold Mv.err Mv.ns sided
          simp [HK.out, HFW.out, HFc.out, HFf.out, HFa.out]
        have HV : Hid (_) := hv
        clear hv
        go_wp2_with fail
        go_ret
        exact ⟨by rw [HV.out]; rfl, HB.out⟩
      · have hb := rbad_no m.a fa
        have HFa : Hid (_) := fa
        clear fa
        go_wp2_with fail
        refine (hb _).mono ?_
        rintro r w' ⟨rfl, hw⟩
        rw [hw]
        clear hw w'
        clear hb
        go_wp2_with fail
        refine (hS _).mono ?_
        rintro r w' ⟨rfl, hw⟩
        rw [hw]
        clear hw w'
        rcases Decidable.em (m.s = 1) with hs | hs
        · rw [hs] at c2
          have HS : Hid (_) := hs
          clear hs
          have hv : E = 0 := by
            rw [← HE.out]
            unfold Mv.err Mv.ns sided
            simp [HK.out, HFW.out, HFc.out, HFf.out, HFa.out, HS.out]
          have HV : Hid (_) := hv
          clear hv
          go_wp2_with fail
          go_ret
          exact ⟨by rw [HV.out]; rfl, HB.out⟩
        rcases Decidable.em (m.s = 2) with ht | ht
        · rw [ht] at c2
          have HS : Hid (_) := ht
          clear hs ht
          have hv : E = 0 := by
            rw [← HE.out]
            unfold Mv.err Mv.ns sided
            simp [HK.out, HFW.out, HFc.out, HFf.out, HFa.out, HS.out]
          have HV : Hid (_) := hv
          clear hv
          go_wp2_with fail
          go_ret
          exact ⟨by rw [HV.out]; rfl, HB.out⟩
        have g1 : (m.s != 1) = true := by simpa using hs
        have g2 : (m.s != 2) = true := by simpa using ht
        have HS : Hid (_) := And.intro hs ht
        clear hs ht
        have hv : E = 172 := by
          rw [← HE.out]
          unfold Mv.err Mv.ns sided
          simp [HK.out, HFW.out, HFc.out, HFf.out, HFa.out, HS.out.1, HS.out.2]
        have HV : Hid (_) := hv
        clear hv
        go_wp2_with fail
        go_ret
        exact ⟨by rw [HV.out]; rfl, HB.out⟩
set_option maxHeartbeats 2000000 in
theorem rfault5 (m : Mv) (hm : m.Ok) (hk : m.k = 5) (d : Option Addr) (e : Nat) (w : World) (hl : m.l ≤ 140737488355328) : Calls Tryd.prog 58 #[.agg #[.int .i64 m.k, .int .i64 m.c, .int .i64 m.s, .int .i64 m.f, .int .i64 m.a, .int .u32 (m.w : Nat), .int .i64 m.n, .bool m.h, .slice d m.l e]] w fun r w' => r = .returned (.int .i64 m.err) ∧ Below w.heap.size w w' := by
  obtain ⟨W, hW⟩ : ∃ W : World, w.alloc (.cells #[.int .i64 m.k, .int .i64 m.c, .int .i64 m.s, .int .i64 m.f, .int .i64 m.a, .int .u32 (m.w : Nat), .int .i64 m.n, .bool m.h, .slice d m.l e] 29) = W := ⟨_, rfl⟩
  have bW : Below w.heap.size w W := by rw [← hW]; exact belA (Below.refl _ _) _
  have mW : MvW W w.heap.size m d e := by rw [← hW]; exact MvW.new w m d e
  obtain ⟨c0, c1, c2, c3, c4, c5, c6, c7, c8⟩ := mW.cells
  have HB : Hid (_) := bW
  have fw := fit_w hm
  have HFW : Hid (_) := fw
  obtain ⟨E, hE⟩ : ∃ x, m.err = x := ⟨_, rfl⟩
  rw [hE]
  have HE : Hid (m.err = E) := hE
  have HK : Hid (_) := hk
  have hS := rsided 5
  rw [show sided 5 = true from rfl] at hS
  rw [hk] at c0
  clear hE mW bW fw hm
  rw [hk] at hW ⊢
  clear hk
  go_enter Tryd.func58, Tryd.ntmps58
  go_wp2_with fail
  try rw [hW]
  clear hW
  rcases Bool.eq_false_or_eq_true (fitI m.c) with fc | fc
  rotate_left
  · have hb := rbad_yes m.c fc
    have HFc : Hid (_) := fc
    clear fc
    go_wp2_with fail
    refine (hb _).mono ?_
    rintro r w' ⟨rfl, hw⟩
    rw [hw]
    clear hw w'
    clear hb
    have hv : E = 2 := by
      rw [← HE.out]
      unfold Mv.err Mv.ns sided
      simp [HK.out, HFW.out, HFc.out]
    have HV : Hid (_) := hv
    clear hv
    go_wp2_with fail
    go_ret
    exact ⟨by rw [HV.out]; rfl, HB.out⟩
  · have hb := rbad_no m.c fc
    have HFc : Hid (_) := fc
    clear fc
    go_wp2_with fail
    refine (hb _).mono ?_
    rintro r w' ⟨rfl, hw⟩
    rw [hw]
    clear hw w'
    clear hb
    rcases Bool.eq_false_or_eq_true (fitI m.n) with fn | fn
    rotate_left
    · have hb := rbad_yes m.n fn
      have HFn : Hid (_) := fn
      clear fn
      go_wp2_with fail
      refine (hb _).mono ?_
      rintro r w' ⟨rfl, hw⟩
      rw [hw]
      clear hw w'
      clear hb
      have hv : E = 2 := by
        rw [← HE.out]
        unfold Mv.err Mv.ns sided
        simp [HK.out, HFW.out, HFc.out, HFn.out]
      have HV : Hid (_) := hv
      clear hv
      go_wp2_with fail
      go_ret
      exact ⟨by rw [HV.out]; rfl, HB.out⟩
    · have hb := rbad_no m.n fn
      have HFn : Hid (_) := fn
      clear fn
      go_wp2_with fail
      refine (hb _).mono ?_
      rintro r w' ⟨rfl, hw⟩
      rw [hw]
      clear hw w'
      clear hb
      go_wp2_with fail
      refine (hS _).mono ?_
      rintro r w' ⟨rfl, hw⟩
      rw [hw]
      clear hw w'
      rcases Decidable.em (m.s = 1) with hs | hs
      · rw [hs] at c2
        have HS : Hid (_) := hs
        clear hs
        have hv : E = 0 := by
          rw [← HE.out]
          unfold Mv.err Mv.ns sided
          simp [HK.out, HFW.out, HFc.out, HFn.out, HS.out]
        have HV : Hid (_) := hv
        clear hv
        go_wp2_with fail
        go_ret
        exact ⟨by rw [HV.out]; rfl, HB.out⟩
      rcases Decidable.em (m.s = 2) with ht | ht
      · rw [ht] at c2
        have HS : Hid (_) := ht
        clear hs ht
        have hv : E = 0 := by
          rw [← HE.out]
          unfold Mv.err Mv.ns sided
          simp [HK.out, HFW.out, HFc.out, HFn.out, HS.out]
        have HV : Hid (_) := hv
        clear hv
        go_wp2_with fail
        go_ret
        exact ⟨by rw [HV.out]; rfl, HB.out⟩
      have g1 : (m.s != 1) = true := by simpa using hs
      have g2 : (m.s != 2) = true := by simpa using ht
      have HS : Hid (_) := And.intro hs ht
      clear hs ht
      have hv : E = 172 := by
        rw [← HE.out]
        unfold Mv.err Mv.ns sided
        simp [HK.out, HFW.out, HFc.out, HFn.out, HS.out.1, HS.out.2]
      have HV : Hid (_) := hv
      clear hv
      go_wp2_with fail
      go_ret
      exact ⟨by rw [HV.out]; rfl, HB.out⟩
set_option maxHeartbeats 2000000 in
theorem rfault6 (m : Mv) (hm : m.Ok) (hk : m.k = 6) (d : Option Addr) (e : Nat) (w : World) (hl : m.l ≤ 140737488355328) : Calls Tryd.prog 58 #[.agg #[.int .i64 m.k, .int .i64 m.c, .int .i64 m.s, .int .i64 m.f, .int .i64 m.a, .int .u32 (m.w : Nat), .int .i64 m.n, .bool m.h, .slice d m.l e]] w fun r w' => r = .returned (.int .i64 m.err) ∧ Below w.heap.size w w' := by
  obtain ⟨W, hW⟩ : ∃ W : World, w.alloc (.cells #[.int .i64 m.k, .int .i64 m.c, .int .i64 m.s, .int .i64 m.f, .int .i64 m.a, .int .u32 (m.w : Nat), .int .i64 m.n, .bool m.h, .slice d m.l e] 29) = W := ⟨_, rfl⟩
  have bW : Below w.heap.size w W := by rw [← hW]; exact belA (Below.refl _ _) _
  have mW : MvW W w.heap.size m d e := by rw [← hW]; exact MvW.new w m d e
  obtain ⟨c0, c1, c2, c3, c4, c5, c6, c7, c8⟩ := mW.cells
  have HB : Hid (_) := bW
  have fw := fit_w hm
  have HFW : Hid (_) := fw
  obtain ⟨E, hE⟩ : ∃ x, m.err = x := ⟨_, rfl⟩
  rw [hE]
  have HE : Hid (m.err = E) := hE
  have HK : Hid (_) := hk
  have hS := rsided 6
  rw [show sided 6 = true from rfl] at hS
  rw [hk] at c0
  clear hE mW bW fw hm
  rw [hk] at hW ⊢
  clear hk
  go_enter Tryd.func58, Tryd.ntmps58
  go_wp2_with fail
  try rw [hW]
  clear hW
  rcases Bool.eq_false_or_eq_true (fitI m.c) with fc | fc
  rotate_left
  · have hb := rbad_yes m.c fc
    have HFc : Hid (_) := fc
    clear fc
    go_wp2_with fail
    refine (hb _).mono ?_
    rintro r w' ⟨rfl, hw⟩
    rw [hw]
    clear hw w'
    clear hb
    have hv : E = 2 := by
      rw [← HE.out]
      unfold Mv.err Mv.ns sided
      simp [HK.out, HFW.out, HFc.out]
    have HV : Hid (_) := hv
    clear hv
    go_wp2_with fail
    go_ret
    exact ⟨by rw [HV.out]; rfl, HB.out⟩
  · have hb := rbad_no m.c fc
    have HFc : Hid (_) := fc
    clear fc
    go_wp2_with fail
    refine (hb _).mono ?_
    rintro r w' ⟨rfl, hw⟩
    rw [hw]
    clear hw w'
    clear hb
    go_wp2_with fail
    refine (hS _).mono ?_
    rintro r w' ⟨rfl, hw⟩
    rw [hw]
    clear hw w'
    rcases Decidable.em (m.s = 1) with hs | hs
    · rw [hs] at c2
      have HS : Hid (_) := hs
      clear hs
      have hv : E = 0 := by
        rw [← HE.out]
        unfold Mv.err Mv.ns sided
        simp [HK.out, HFW.out, HFc.out, HS.out]
      have HV : Hid (_) := hv
      clear hv
      go_wp2_with fail
      go_ret
      exact ⟨by rw [HV.out]; rfl, HB.out⟩
    rcases Decidable.em (m.s = 2) with ht | ht
    · rw [ht] at c2
      have HS : Hid (_) := ht
      clear hs ht
      have hv : E = 0 := by
        rw [← HE.out]
        unfold Mv.err Mv.ns sided
        simp [HK.out, HFW.out, HFc.out, HS.out]
      have HV : Hid (_) := hv
      clear hv
      go_wp2_with fail
      go_ret
      exact ⟨by rw [HV.out]; rfl, HB.out⟩
    have g1 : (m.s != 1) = true := by simpa using hs
    have g2 : (m.s != 2) = true := by simpa using ht
    have HS : Hid (_) := And.intro hs ht
    clear hs ht
    have hv : E = 172 := by
      rw [← HE.out]
      unfold Mv.err Mv.ns sided
      simp [HK.out, HFW.out, HFc.out, HS.out.1, HS.out.2]
    have HV : Hid (_) := hv
    clear hv
    go_wp2_with fail
    go_ret
    exact ⟨by rw [HV.out]; rfl, HB.out⟩
set_option maxHeartbeats 2000000 in
theorem rfault7 (m : Mv) (hm : m.Ok) (hk : m.k = 7) (d : Option Addr) (e : Nat) (w : World) (hl : m.l ≤ 140737488355328) : Calls Tryd.prog 58 #[.agg #[.int .i64 m.k, .int .i64 m.c, .int .i64 m.s, .int .i64 m.f, .int .i64 m.a, .int .u32 (m.w : Nat), .int .i64 m.n, .bool m.h, .slice d m.l e]] w fun r w' => r = .returned (.int .i64 m.err) ∧ Below w.heap.size w w' := by
  obtain ⟨W, hW⟩ : ∃ W : World, w.alloc (.cells #[.int .i64 m.k, .int .i64 m.c, .int .i64 m.s, .int .i64 m.f, .int .i64 m.a, .int .u32 (m.w : Nat), .int .i64 m.n, .bool m.h, .slice d m.l e] 29) = W := ⟨_, rfl⟩
  have bW : Below w.heap.size w W := by rw [← hW]; exact belA (Below.refl _ _) _
  have mW : MvW W w.heap.size m d e := by rw [← hW]; exact MvW.new w m d e
  obtain ⟨c0, c1, c2, c3, c4, c5, c6, c7, c8⟩ := mW.cells
  have HB : Hid (_) := bW
  have fw := fit_w hm
  have HFW : Hid (_) := fw
  obtain ⟨E, hE⟩ : ∃ x, m.err = x := ⟨_, rfl⟩
  rw [hE]
  have HE : Hid (m.err = E) := hE
  have HK : Hid (_) := hk
  have hS := rsided 7
  rw [show sided 7 = true from rfl] at hS
  rw [hk] at c0
  clear hE mW bW fw hm
  rw [hk] at hW ⊢
  clear hk
  go_enter Tryd.func58, Tryd.ntmps58
  go_wp2_with fail
  try rw [hW]
  clear hW
  rcases Bool.eq_false_or_eq_true (fitI m.c) with fc | fc
  rotate_left
  · have hb := rbad_yes m.c fc
    have HFc : Hid (_) := fc
    clear fc
    go_wp2_with fail
    refine (hb _).mono ?_
    rintro r w' ⟨rfl, hw⟩
    rw [hw]
    clear hw w'
    clear hb
    have hv : E = 2 := by
      rw [← HE.out]
      unfold Mv.err Mv.ns sided
      simp [HK.out, HFW.out, HFc.out]
    have HV : Hid (_) := hv
    clear hv
    go_wp2_with fail
    go_ret
    exact ⟨by rw [HV.out]; rfl, HB.out⟩
  · have hb := rbad_no m.c fc
    have HFc : Hid (_) := fc
    clear fc
    go_wp2_with fail
    refine (hb _).mono ?_
    rintro r w' ⟨rfl, hw⟩
    rw [hw]
    clear hw w'
    clear hb
    rcases Bool.eq_false_or_eq_true (fitI m.n) with fn | fn
    rotate_left
    · have hb := rbad_yes m.n fn
      have HFn : Hid (_) := fn
      clear fn
      go_wp2_with fail
      refine (hb _).mono ?_
      rintro r w' ⟨rfl, hw⟩
      rw [hw]
      clear hw w'
      clear hb
      have hv : E = 2 := by
        rw [← HE.out]
        unfold Mv.err Mv.ns sided
        simp [HK.out, HFW.out, HFc.out, HFn.out]
      have HV : Hid (_) := hv
      clear hv
      go_wp2_with fail
      go_ret
      exact ⟨by rw [HV.out]; rfl, HB.out⟩
    · have hb := rbad_no m.n fn
      have HFn : Hid (_) := fn
      clear fn
      go_wp2_with fail
      refine (hb _).mono ?_
      rintro r w' ⟨rfl, hw⟩
      rw [hw]
      clear hw w'
      clear hb
      go_wp2_with fail
      refine (hS _).mono ?_
      rintro r w' ⟨rfl, hw⟩
      rw [hw]
      clear hw w'
      rcases Decidable.em (m.s = 1) with hs | hs
      · rw [hs] at c2
        have HS : Hid (_) := hs
        clear hs
        have hv : E = 0 := by
          rw [← HE.out]
          unfold Mv.err Mv.ns sided
          simp [HK.out, HFW.out, HFc.out, HFn.out, HS.out]
        have HV : Hid (_) := hv
        clear hv
        go_wp2_with fail
        go_ret
        exact ⟨by rw [HV.out]; rfl, HB.out⟩
      rcases Decidable.em (m.s = 2) with ht | ht
      · rw [ht] at c2
        have HS : Hid (_) := ht
        clear hs ht
        have hv : E = 0 := by
          rw [← HE.out]
          unfold Mv.err Mv.ns sided
          simp [HK.out, HFW.out, HFc.out, HFn.out, HS.out]
        have HV : Hid (_) := hv
        clear hv
        go_wp2_with fail
        go_ret
        exact ⟨by rw [HV.out]; rfl, HB.out⟩
      have g1 : (m.s != 1) = true := by simpa using hs
      have g2 : (m.s != 2) = true := by simpa using ht
      have HS : Hid (_) := And.intro hs ht
      clear hs ht
      have hv : E = 172 := by
        rw [← HE.out]
        unfold Mv.err Mv.ns sided
        simp [HK.out, HFW.out, HFc.out, HFn.out, HS.out.1, HS.out.2]
      have HV : Hid (_) := hv
      clear hv
      go_wp2_with fail
      go_ret
      exact ⟨by rw [HV.out]; rfl, HB.out⟩
set_option maxHeartbeats 2000000 in
theorem rfault8 (m : Mv) (hm : m.Ok) (hk : m.k = 8) (d : Option Addr) (e : Nat) (w : World) (hl : m.l ≤ 140737488355328) : Calls Tryd.prog 58 #[.agg #[.int .i64 m.k, .int .i64 m.c, .int .i64 m.s, .int .i64 m.f, .int .i64 m.a, .int .u32 (m.w : Nat), .int .i64 m.n, .bool m.h, .slice d m.l e]] w fun r w' => r = .returned (.int .i64 m.err) ∧ Below w.heap.size w w' := by
  obtain ⟨W, hW⟩ : ∃ W : World, w.alloc (.cells #[.int .i64 m.k, .int .i64 m.c, .int .i64 m.s, .int .i64 m.f, .int .i64 m.a, .int .u32 (m.w : Nat), .int .i64 m.n, .bool m.h, .slice d m.l e] 29) = W := ⟨_, rfl⟩
  have bW : Below w.heap.size w W := by rw [← hW]; exact belA (Below.refl _ _) _
  have mW : MvW W w.heap.size m d e := by rw [← hW]; exact MvW.new w m d e
  obtain ⟨c0, c1, c2, c3, c4, c5, c6, c7, c8⟩ := mW.cells
  have HB : Hid (_) := bW
  have fw := fit_w hm
  have HFW : Hid (_) := fw
  obtain ⟨E, hE⟩ : ∃ x, m.err = x := ⟨_, rfl⟩
  rw [hE]
  have HE : Hid (m.err = E) := hE
  have HK : Hid (_) := hk
  have hS := rsided 8
  rw [show sided 8 = false from rfl] at hS
  rw [hk] at c0
  clear hE mW bW fw hm
  rw [hk] at hW ⊢
  clear hk
  go_enter Tryd.func58, Tryd.ntmps58
  go_wp2_with fail
  try rw [hW]
  clear hW
  rcases Bool.eq_false_or_eq_true (fitI m.c) with fc | fc
  rotate_left
  · have hb := rbad_yes m.c fc
    have HFc : Hid (_) := fc
    clear fc
    go_wp2_with fail
    refine (hb _).mono ?_
    rintro r w' ⟨rfl, hw⟩
    rw [hw]
    clear hw w'
    clear hb
    have hv : E = 2 := by
      rw [← HE.out]
      unfold Mv.err Mv.ns sided
      simp [HK.out, HFW.out, HFc.out]
    have HV : Hid (_) := hv
    clear hv
    go_wp2_with fail
    go_ret
    exact ⟨by rw [HV.out]; rfl, HB.out⟩
  · have hb := rbad_no m.c fc
    have HFc : Hid (_) := fc
    clear fc
    go_wp2_with fail
    refine (hb _).mono ?_
    rintro r w' ⟨rfl, hw⟩
    rw [hw]
    clear hw w'
    clear hb
    rcases Bool.eq_false_or_eq_true (fitI m.n) with fn | fn
    rotate_left
    · have hb := rbad_yes m.n fn
      have HFn : Hid (_) := fn
      clear fn
      go_wp2_with fail
      refine (hb _).mono ?_
      rintro r w' ⟨rfl, hw⟩
      rw [hw]
      clear hw w'
      clear hb
      have hv : E = 2 := by
        rw [← HE.out]
        unfold Mv.err Mv.ns sided
        simp [HK.out, HFW.out, HFc.out, HFn.out]
      have HV : Hid (_) := hv
      clear hv
      go_wp2_with fail
      go_ret
      exact ⟨by rw [HV.out]; rfl, HB.out⟩
    · have hb := rbad_no m.n fn
      have HFn : Hid (_) := fn
      clear fn
      go_wp2_with fail
      refine (hb _).mono ?_
      rintro r w' ⟨rfl, hw⟩
      rw [hw]
      clear hw w'
      clear hb
      go_wp2_with fail
      refine (hS _).mono ?_
      rintro r w' ⟨rfl, hw⟩
      rw [hw]
      clear hw w'
      have hv : E = 0 := by
        rw [← HE.out]
        unfold Mv.err Mv.ns sided
        simp [HK.out, HFW.out, HFc.out, HFn.out]
      have HV : Hid (_) := hv
      clear hv
      go_wp2_with fail
      go_ret
      exact ⟨by rw [HV.out]; rfl, HB.out⟩
set_option maxHeartbeats 2000000 in
theorem rfaulto (m : Mv) (hm : m.Ok) (hk : m.k < 1 ∨ 8 < m.k) (d : Option Addr) (e : Nat) (w : World) (hl : m.l ≤ 140737488355328) : Calls Tryd.prog 58 #[.agg #[.int .i64 m.k, .int .i64 m.c, .int .i64 m.s, .int .i64 m.f, .int .i64 m.a, .int .u32 (m.w : Nat), .int .i64 m.n, .bool m.h, .slice d m.l e]] w fun r w' => r = .returned (.int .i64 m.err) ∧ Below w.heap.size w w' := by
  obtain ⟨W, hW⟩ : ∃ W : World, w.alloc (.cells #[.int .i64 m.k, .int .i64 m.c, .int .i64 m.s, .int .i64 m.f, .int .i64 m.a, .int .u32 (m.w : Nat), .int .i64 m.n, .bool m.h, .slice d m.l e] 29) = W := ⟨_, rfl⟩
  have bW : Below w.heap.size w W := by rw [← hW]; exact belA (Below.refl _ _) _
  have mW : MvW W w.heap.size m d e := by rw [← hW]; exact MvW.new w m d e
  obtain ⟨c0, c1, c2, c3, c4, c5, c6, c7, c8⟩ := mW.cells
  have HB : Hid (_) := bW
  have fw := fit_w hm
  have HFW : Hid (_) := fw
  obtain ⟨E, hE⟩ : ∃ x, m.err = x := ⟨_, rfl⟩
  rw [hE]
  have HE : Hid (m.err = E) := hE
  have hks : m.k ≠ 1 ∧ m.k ≠ 2 ∧ m.k ≠ 3 ∧ m.k ≠ 4 ∧ m.k ≠ 5 ∧ m.k ≠ 7 ∧ m.k ≠ 8 := by omega
  obtain ⟨k1, k2, k3, k4, k5, k7, k8⟩ := hks
  have e1 : (m.k == 1) = false := by simpa using k1
  have e2 : (m.k == 2) = false := by simpa using k2
  have e3 : (m.k == 3) = false := by simpa using k3
  have e4 : (m.k == 4) = false := by simpa using k4
  have e5 : (m.k == 5) = false := by simpa using k5
  have e7 : (m.k == 7) = false := by simpa using k7
  have e8 : (m.k == 8) = false := by simpa using k8
  have es : sided m.k = true := by unfold sided; simp [k2, k8]
  have HK : Hid (_) := And.intro hk (And.intro k1 (And.intro k3 (And.intro k4 (And.intro k5 (And.intro k7 (And.intro k8 es))))))
  have hS := rsided m.k
  rw [es] at hS
  clear es k1 k2 k3 k4 k5 k7 k8
  clear hE mW bW fw hm
  go_enter Tryd.func58, Tryd.ntmps58
  go_wp2_with fail
  try rw [hW]
  clear hW
  rcases Bool.eq_false_or_eq_true (fitI m.c) with fc | fc
  rotate_left
  · have hb := rbad_yes m.c fc
    have HFc : Hid (_) := fc
    clear fc
    go_wp2_with fail
    refine (hb _).mono ?_
    rintro r w' ⟨rfl, hw⟩
    rw [hw]
    clear hw w'
    clear hb
    have hv : E = 2 := by
      have q := HK.out
      rw [← HE.out]
      unfold Mv.err Mv.ns
      simp [q.2.1, q.2.2.1, q.2.2.2.1, q.2.2.2.2.1, q.2.2.2.2.2.1, q.2.2.2.2.2.2.1, q.2.2.2.2.2.2.2, q.1, HFc.out]
    have HV : Hid (_) := hv
    clear hv
    go_wp2_with fail
    go_ret
    exact ⟨by rw [HV.out]; rfl, HB.out⟩
  · have hb := rbad_no m.c fc
    have HFc : Hid (_) := fc
    clear fc
    go_wp2_with fail
    refine (hb _).mono ?_
    rintro r w' ⟨rfl, hw⟩
    rw [hw]
    clear hw w'
    clear hb
    go_wp2_with fail
    refine (hS _).mono ?_
    rintro r w' ⟨rfl, hw⟩
    rw [hw]
    clear hw w'
    rcases Decidable.em (m.s = 1) with hs | hs
    · rw [hs] at c2
      have HS : Hid (_) := hs
      clear hs
      rcases hk with h1 | h1
      · skip
        have hv : E = 170 := by
          have q := HK.out
          rw [← HE.out]
          unfold Mv.err Mv.ns
          simp [q.2.1, q.2.2.1, q.2.2.2.1, q.2.2.2.2.1, q.2.2.2.2.2.1, q.2.2.2.2.2.2.1, q.2.2.2.2.2.2.2, q.1, HFc.out, HS.out]
        have HV : Hid (_) := hv
        clear hv
        go_wp2_with fail
        go_ret
        exact ⟨by rw [HV.out]; rfl, HB.out⟩
      · have h2 : ¬ m.k < 1 := by omega
        have h3 : m.k > 8 := by omega
        have hv : E = 170 := by
          have q := HK.out
          rw [← HE.out]
          unfold Mv.err Mv.ns
          simp [q.2.1, q.2.2.1, q.2.2.2.1, q.2.2.2.2.1, q.2.2.2.2.2.1, q.2.2.2.2.2.2.1, q.2.2.2.2.2.2.2, q.1, HFc.out, HS.out]
        have HV : Hid (_) := hv
        clear hv
        go_wp2_with fail
        go_ret
        exact ⟨by rw [HV.out]; rfl, HB.out⟩
    rcases Decidable.em (m.s = 2) with ht | ht
    · rw [ht] at c2
      have HS : Hid (_) := ht
      clear hs ht
      rcases hk with h1 | h1
      · skip
        have hv : E = 170 := by
          have q := HK.out
          rw [← HE.out]
          unfold Mv.err Mv.ns
          simp [q.2.1, q.2.2.1, q.2.2.2.1, q.2.2.2.2.1, q.2.2.2.2.2.1, q.2.2.2.2.2.2.1, q.2.2.2.2.2.2.2, q.1, HFc.out, HS.out]
        have HV : Hid (_) := hv
        clear hv
        go_wp2_with fail
        go_ret
        exact ⟨by rw [HV.out]; rfl, HB.out⟩
      · have h2 : ¬ m.k < 1 := by omega
        have h3 : m.k > 8 := by omega
        have hv : E = 170 := by
          have q := HK.out
          rw [← HE.out]
          unfold Mv.err Mv.ns
          simp [q.2.1, q.2.2.1, q.2.2.2.1, q.2.2.2.2.1, q.2.2.2.2.2.1, q.2.2.2.2.2.2.1, q.2.2.2.2.2.2.2, q.1, HFc.out, HS.out]
        have HV : Hid (_) := hv
        clear hv
        go_wp2_with fail
        go_ret
        exact ⟨by rw [HV.out]; rfl, HB.out⟩
    have g1 : (m.s != 1) = true := by simpa using hs
    have g2 : (m.s != 2) = true := by simpa using ht
    have HS : Hid (_) := And.intro hs ht
    clear hs ht
    have hv : E = 172 := by
      have q := HK.out
      rw [← HE.out]
      unfold Mv.err Mv.ns
      simp [q.2.1, q.2.2.1, q.2.2.2.1, q.2.2.2.2.1, q.2.2.2.2.2.1, q.2.2.2.2.2.2.1, q.2.2.2.2.2.2.2, q.1, HFc.out, HS.out.1, HS.out.2]
    have HV : Hid (_) := hv
    clear hv
    go_wp2_with fail
    go_ret
    exact ⟨by rw [HV.out]; rfl, HB.out⟩
theorem rfault (m : Mv) (hm : m.Ok) (d : Option Addr) (e : Nat) (w : World) (hl : m.l ≤ 140737488355328) : Calls Tryd.prog 58 #[.agg #[.int .i64 m.k, .int .i64 m.c, .int .i64 m.s, .int .i64 m.f, .int .i64 m.a, .int .u32 (m.w : Nat), .int .i64 m.n, .bool m.h, .slice d m.l e]] w fun r w' => r = .returned (.int .i64 m.err) ∧ Below w.heap.size w w' := by
  have hcase : m.k = 1 ∨ m.k = 2 ∨ m.k = 3 ∨ m.k = 4 ∨ m.k = 5 ∨ m.k = 6 ∨ m.k = 7 ∨ m.k = 8 ∨ (m.k < 1 ∨ 8 < m.k) := by omega
  rcases hcase with h | h | h | h | h | h | h | h | h
  · exact rfault1 m hm h d e w hl
  · exact rfault2 m hm h d e w hl
  · exact rfault3 m hm h d e w hl
  · exact rfault4 m hm h d e w hl
  · exact rfault5 m hm h d e w hl
  · exact rfault6 m hm h d e w hl
  · exact rfault7 m hm h d e w hl
  · exact rfault8 m hm h d e w hl
  · exact rfaulto m hm h d e w hl
end Go.Proofs.YtbhbjdmdabkomaaDoor
