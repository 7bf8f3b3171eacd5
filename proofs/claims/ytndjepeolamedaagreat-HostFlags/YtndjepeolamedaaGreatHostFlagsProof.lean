/- For every input the Go function HostFlags returns true, and its arguments read afterwards as they read before. No condition. -/
import Derived.Test.YtndjepeolamedaaGreatHostFlagsLift
import Derived.Test.YtndjepeolamedaaGreatRows
import Derived.WalkKit
import Derived.ProofKit
import Derived.OpenShut
import Derived.ShutString
import Derived.ChangeOld
import Derived.Below
namespace Go.Proofs.YtndjepeolamedaaGreat.hostFlags
open Go.ChangeShapes Go.WideShapes Go.ChangeAt Go.RowKit
open Go.ChangeMaps (open_string shut_string)
set_option linter.unusedVariables false
theorem over1 : Tryz.pinned.checked.prog.funcNamed Rows.hostFlagsRow.func = some 12 := by kernel_rfl
theorem over2 : joinedFacts Tryz.pinned.checked.prog 12 Tryz.f12 Rows.hostFlagsSpec Rows.hostFlagsRow = true := by kernel_rfl
theorem over3 : Tryz.f12.isInstance Tryz.pinned.checked.prog Rows.hostFlagsRow.origin Rows.hostFlagsRow.targs := of_decide_eq_true (by kernel_rfl)
theorem over4 : Tryz.f12.isWrapper Tryz.pinned.checked.prog Rows.hostFlagsRow.wrapper Rows.hostFlagsRow.mainSum := by unfold Func.isWrapper; first | (rw [if_pos (by decide +kernel)]; kernel_rfl) | (rw [if_neg (by decide +kernel)]; exact ⟨rfl, rfl⟩)
theorem over : Rows.hostFlagsRow.holds Tryz.pinned (OpenSpec.ofChange Rows.hostFlagsSpec) :=
  OpenClaim.holds_of_wide 12 Tryz.f12 rfl rfl rfl rfl rfl rfl rfl ⟨rfl, rfl, rfl, rfl, rfl⟩ rfl rfl rfl rfl rfl over1 Tryz.func12 over2 over3 over4
    (fun os started H enc _ => lifted os started H enc)

theorem proved : Rows.HostFlagsSaid := over
#print axioms proved
end Go.Proofs.YtndjepeolamedaaGreat.hostFlags
namespace Go.Proofs.YtndjepeolamedaaGreat
theorem hostFlags_holds : Rows.HostFlagsSaid := hostFlags.proved
end Go.Proofs.YtndjepeolamedaaGreat
