/- Layer 6: a nil gate, a nil Lazy, one of a nil function. -/
import Derived.Test.YtodopnconlgghaaGate3
namespace Go.Proofs.Ytodopnconlgghaa
open Go.RowKit

theorem Off.nilBelow {w w' : World} (h : Off [] w w') : Below w.heap.size w w' := h.below (Below.refl _ _) (by simp) (Nat.le_refl _)
set_option maxRecDepth 100000 in
set_option maxHeartbeats 2000000 in
theorem gateNil_walk (a0 : Int) (_w0 : (Lit.int .i64 a0).wf = true) (w : World) :
    Calls Try.prog 7 #[.int .i64 a0] w fun e w' => e = .returned (.bool true) ∧ Below w.heap.size w w' := by
  go_enter Try.func7, Try.ntmps7
  go_wp2_with fail
  refine (awake6 w).mono ?_
  rintro e w1 ⟨rfl, o1⟩
  go_wp2_with fail
  refine (makeI_any .nilFunc w1 (.inl rfl)).mono ?_
  rintro e w2 ⟨rfl, o2, l2⟩
  go_wp2_with fail
  refine (trip_nil a0 w2).mono ?_
  rintro e w3 ⟨rfl, o3⟩
  go_wp2_with fail
  refine (code_nil w3).mono ?_
  rintro e w4 ⟨rfl, hw⟩
  rw [hw]; clear hw
  go_wp2_with fail
  refine (times_nil w3).mono ?_
  rintro e w4 ⟨rfl, hw⟩
  rw [hw]; clear hw
  go_wp2_with fail
  refine (lift_nil w3).mono ?_
  rintro e w4 ⟨rfl, hw⟩
  rw [hw]; clear hw
  go_wp2_with fail
  refine (getS_nil w3).mono ?_
  rintro e w4 ⟨rfl, o4⟩
  go_wp2_with fail
  refine (madeS_nil w4).mono ?_
  rintro e w5 ⟨rfl, hw⟩
  rw [hw]; clear hw
  have l4 := (l2.off o3 (by simp)).off o4 (by simp)
  go_wp2_with fail
  refine (getI_none _ _ _ _ _ w4 l4).mono ?_
  rintro e w5 ⟨rfl, o5⟩
  go_wp2_with fail
  refine (madeI_any _ _ _ _ _ _ w5 (l4.off o5 (by simp))).mono ?_
  rintro e w6 ⟨rfl, hw⟩
  rw [hw]; clear hw
  go_wp2_with fail
  go_ret
  exact ⟨rfl, (o1.trans (o2.trans (o3.trans (o4.trans o5)))).nilBelow⟩

end Go.Proofs.Ytodopnconlgghaa
