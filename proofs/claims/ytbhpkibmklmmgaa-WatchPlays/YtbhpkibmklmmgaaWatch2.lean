/- Layer 10: Awake; a nil watchdog. -/
import Derived.Test.YtbhpkibmklmmgaaWatch
namespace Go.Proofs.Ytbhpkibmklmmgaa
open Go.RowKit

theorem Off.nilB {w w' : World} (h : Off [] w w') : Below w.heap.size w w' := h.below (Below.refl _ _) (by simp) (Nat.le_refl _)
set_option maxRecDepth 100000 in
set_option maxHeartbeats 2000000 in
theorem awake10 (w : World) :
    Calls Try.prog 7 #[] w fun e w' => e = .returned (.bool true) ∧ Off [] w w' := by
  go_enter Try.func7, Try.ntmps7
  go_wp2_with fail
  refine (wnew_ok 2 w (by omega) (by omega)).mono ?_
  rintro e w1 ⟨rfl, o1, d1⟩
  go_wp2_with fail
  refine (wtick_any 2 0 _ w1 d1).mono ?_
  rintro e w2 ⟨rfl, o2, d2⟩
  rw [show told 2 0 1 = false from by decide]
  rw [show tk 2 0 1 = 1 from by decide] at d2
  go_wp2_with fail
  refine (wtick_any 2 1 _ w2 d2).mono ?_
  rintro e w3 ⟨rfl, o3, d3⟩
  rw [show told 2 1 1 = true from by decide]
  rw [show tk 2 1 1 = 2 from by decide] at d3
  go_wp2_with fail
  refine (wtick_any 2 2 _ w3 d3).mono ?_
  rintro e w4 ⟨rfl, o4, d4⟩
  rw [show told 2 2 1 = false from by decide]
  rw [show tk 2 2 1 = 2 from by decide] at d4
  go_wp2_with fail
  refine (wsince_any 2 2 _ w4 d4).mono ?_
  rintro e w5 ⟨rfl, hw⟩
  rw [hw]; clear hw
  go_wp2_with fail
  refine (wexpired_any 2 2 _ w4 d4).mono ?_
  rintro e w6 ⟨rfl, j, hw⟩
  have o6 : Off [w.heap.size] w4 w6 := hw ▸ Off.drewN _ _ _
  have ho : Hid (Off [] w w6) := ((o1.more (by simp)).trans (o2.trans (o3.trans (o4.trans o6)))).only (by simp)
  rw [show decide (2 ≤ 2) = true from by decide]
  clear hw o1 o2 o3 o4 o6 d1 d2 d3 d4
  go_wp2_with fail
  go_ret
  exact ⟨rfl, ho.out⟩
set_option maxRecDepth 100000 in
set_option maxHeartbeats 2000000 in
theorem watchNil_walk (a0 : Int) (_w0 : (Lit.int .i64 a0).wf = true) (w : World) :
    Calls Try.prog 6 #[.int .i64 a0] w fun e w' => e = .returned (.bool true) ∧ Below w.heap.size w w' := by
  go_enter Try.func6, Try.ntmps6
  go_wp2_with fail
  refine (awake10 w).mono ?_
  rintro e w1 ⟨rfl, o1⟩
  go_wp2_with fail
  refine (wticks_nil a0 w1).mono ?_
  rintro e w2 ⟨rfl, hw⟩
  rw [hw]; clear hw
  go_wp2_with fail
  refine (wfeed_nil w1).mono ?_
  rintro e w2 ⟨rfl, hw⟩
  rw [hw]; clear hw
  go_wp2_with fail
  refine (wtick_nil w1).mono ?_
  rintro e w2 ⟨rfl, hw⟩
  rw [hw]; clear hw
  go_wp2_with fail
  refine (wexpired_nil w1).mono ?_
  rintro e w2 ⟨rfl, j, hw⟩
  have ho : Hid (Below w.heap.size w w2) := (o1.trans (hw ▸ Off.drewN _ _ _)).nilB
  clear hw
  go_wp2_with fail
  refine (wsince_nil w2).mono ?_
  rintro e w3 ⟨rfl, hw⟩
  rw [hw]; clear hw
  go_wp2_with fail
  refine (wlimit_nil w2).mono ?_
  rintro e w3 ⟨rfl, hw⟩
  rw [hw]; clear hw
  go_wp2_with fail
  go_ret
  exact ⟨rfl, ho.out⟩

end Go.Proofs.Ytbhpkibmklmmgaa
