/- For every input the Go function HostRises returns true, and its arguments read afterwards as they read before. No condition. -/
import Derived.Test.YtndjepeolamedaaGreatHostRisesLift
import Derived.Test.YtndjepeolamedaaGreatRows
import Derived.WalkKit
import Derived.ProofKit
import Derived.OpenShut
import Derived.ShutString
import Derived.ChangeOld
import Derived.Below
namespace Go.Proofs.YtndjepeolamedaaGreat.hostRises
open Go.ChangeShapes Go.WideShapes Go.ChangeAt Go.RowKit
open Go.ChangeMaps (open_string shut_string)
set_option linter.unusedVariables false
theorem over1 : Tryz.pinned.checked.prog.funcNamed Rows.hostRisesRow.func = some 7 := by kernel_rfl
theorem over2 : joinedFacts Tryz.pinned.checked.prog 7 Tryz.f7 Rows.hostRisesSpec Rows.hostRisesRow = true := by kernel_rfl
theorem over3 : Tryz.f7.isInstance Tryz.pinned.checked.prog Rows.hostRisesRow.origin Rows.hostRisesRow.targs := of_decide_eq_true (by kernel_rfl)
theorem over4 : Tryz.f7.isWrapper Tryz.pinned.checked.prog Rows.hostRisesRow.wrapper Rows.hostRisesRow.mainSum := by unfold Func.isWrapper; first | (rw [if_pos (by decide +kernel)]; kernel_rfl) | (rw [if_neg (by decide +kernel)]; exact ⟨rfl, rfl⟩)
theorem over : Rows.hostRisesRow.holds Tryz.pinned (OpenSpec.ofChange Rows.hostRisesSpec) :=
  OpenClaim.holds_of_wide 7 Tryz.f7 rfl rfl rfl rfl rfl rfl rfl ⟨rfl, rfl, rfl, rfl, rfl⟩ rfl rfl rfl rfl rfl over1 Tryz.func7 over2 over3 over4
    (fun os started H enc _ => lifted os started H enc)

theorem proved : Rows.HostRisesSaid := over
#print axioms proved
end Go.Proofs.YtndjepeolamedaaGreat.hostRises
namespace Go.Proofs.YtndjepeolamedaaGreat
theorem hostRises_holds : Rows.HostRisesSaid := hostRises.proved
end Go.Proofs.YtndjepeolamedaaGreat
