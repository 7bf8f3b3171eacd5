/- For every input the Go function HostGivesUp returns true, and its arguments read afterwards as they read before. No condition. -/
import Derived.Test.YtndjepeolamedaaGreatHostGivesUpLift
import Derived.Test.YtndjepeolamedaaGreatRows
import Derived.WalkKit
import Derived.ProofKit
import Derived.OpenShut
import Derived.ShutString
namespace Go.Proofs.YtndjepeolamedaaGreat.hostGivesUp
open Go.ChangeShapes Go.WideShapes Go.ChangeAt Go.RowKit
open Go.ChangeMaps (open_string shut_string)
set_option linter.unusedVariables false
theorem over1 : Tryz.pinned.checked.prog.funcNamed Rows.hostGivesUpRow.func = some 10 := by kernel_rfl
theorem over2 : joinedFacts Tryz.pinned.checked.prog 10 Tryz.f10 Rows.hostGivesUpSpec Rows.hostGivesUpRow = true := by kernel_rfl
theorem over3 : Tryz.f10.isInstance Tryz.pinned.checked.prog Rows.hostGivesUpRow.origin Rows.hostGivesUpRow.targs := of_decide_eq_true (by kernel_rfl)
theorem over4 : Tryz.f10.isWrapper Tryz.pinned.checked.prog Rows.hostGivesUpRow.wrapper Rows.hostGivesUpRow.mainSum := by unfold Func.isWrapper; first | (rw [if_pos (by decide +kernel)]; kernel_rfl) | (rw [if_neg (by decide +kernel)]; exact ⟨rfl, rfl⟩)
theorem over : Rows.hostGivesUpRow.holds Tryz.pinned (OpenSpec.ofChange Rows.hostGivesUpSpec) :=
  OpenClaim.holds_of_wide 10 Tryz.f10 rfl rfl rfl rfl rfl rfl rfl ⟨rfl, rfl, rfl, rfl, rfl⟩ rfl rfl rfl rfl rfl over1 Tryz.func10 over2 over3 over4
    (fun os started H enc _ => lifted os started H enc)

theorem proved : Rows.HostGivesUpSaid :=
  over
#print axioms proved
end Go.Proofs.YtndjepeolamedaaGreat.hostGivesUp
namespace Go.Proofs.YtndjepeolamedaaGreat
theorem hostGivesUp_holds : Rows.HostGivesUpSaid := hostGivesUp.proved
end Go.Proofs.YtndjepeolamedaaGreat
