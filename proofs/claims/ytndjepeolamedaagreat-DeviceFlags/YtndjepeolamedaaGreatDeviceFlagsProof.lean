/- For every input the Go function DeviceFlags returns true, and its arguments read afterwards as they read before. No condition. -/
import Derived.Test.YtndjepeolamedaaGreatDeviceFlagsLift
import Derived.Test.YtndjepeolamedaaGreatRows
import Derived.WalkKit
import Derived.ProofKit
import Derived.OpenShut
import Derived.ShutString
import Derived.ChangeOld
import Derived.Below
namespace Go.Proofs.YtndjepeolamedaaGreat.deviceFlags
open Go.ChangeShapes Go.WideShapes Go.ChangeAt Go.RowKit
open Go.ChangeMaps (open_string shut_string)
set_option linter.unusedVariables false
theorem over1 : Tryz.pinned.checked.prog.funcNamed Rows.deviceFlagsRow.func = some 5 := by kernel_rfl
theorem over2 : joinedFacts Tryz.pinned.checked.prog 5 Tryz.f5 Rows.deviceFlagsSpec Rows.deviceFlagsRow = true := by kernel_rfl
theorem over3 : Tryz.f5.isInstance Tryz.pinned.checked.prog Rows.deviceFlagsRow.origin Rows.deviceFlagsRow.targs := of_decide_eq_true (by kernel_rfl)
theorem over4 : Tryz.f5.isWrapper Tryz.pinned.checked.prog Rows.deviceFlagsRow.wrapper Rows.deviceFlagsRow.mainSum := by unfold Func.isWrapper; first | (rw [if_pos (by decide +kernel)]; kernel_rfl) | (rw [if_neg (by decide +kernel)]; exact ⟨rfl, rfl⟩)
theorem over : Rows.deviceFlagsRow.holds Tryz.pinned (OpenSpec.ofChange Rows.deviceFlagsSpec) :=
  OpenClaim.holds_of_wide 5 Tryz.f5 rfl rfl rfl rfl rfl rfl rfl ⟨rfl, rfl, rfl, rfl, rfl⟩ rfl rfl rfl rfl rfl over1 Tryz.func5 over2 over3 over4
    (fun os started H enc _ => lifted os started H enc)

theorem proved : Rows.DeviceFlagsSaid := over
#print axioms proved
end Go.Proofs.YtndjepeolamedaaGreat.deviceFlags
namespace Go.Proofs.YtndjepeolamedaaGreat
theorem deviceFlags_holds : Rows.DeviceFlagsSaid := deviceFlags.proved
end Go.Proofs.YtndjepeolamedaaGreat
