/- For every input the Go function DeviceRepeats returns true, and its arguments read afterwards as they read before. No condition. -/
import Derived.Test.YtndjepeolamedaaGreatDeviceRepeatsLift
import Derived.Test.YtndjepeolamedaaGreatRows
import Derived.WalkKit
import Derived.ProofKit
import Derived.OpenShut
import Derived.ShutString
namespace Go.Proofs.YtndjepeolamedaaGreat.deviceRepeats
open Go.ChangeShapes Go.WideShapes Go.ChangeAt Go.RowKit
open Go.ChangeMaps (open_string shut_string)
set_option linter.unusedVariables false
theorem over1 : Tryz.pinned.checked.prog.funcNamed Rows.deviceRepeatsRow.func = some 4 := by kernel_rfl
theorem over2 : joinedFacts Tryz.pinned.checked.prog 4 Tryz.f4 Rows.deviceRepeatsSpec Rows.deviceRepeatsRow = true := by kernel_rfl
theorem over3 : Tryz.f4.isInstance Tryz.pinned.checked.prog Rows.deviceRepeatsRow.origin Rows.deviceRepeatsRow.targs := of_decide_eq_true (by kernel_rfl)
theorem over4 : Tryz.f4.isWrapper Tryz.pinned.checked.prog Rows.deviceRepeatsRow.wrapper Rows.deviceRepeatsRow.mainSum := by unfold Func.isWrapper; first | (rw [if_pos (by decide +kernel)]; kernel_rfl) | (rw [if_neg (by decide +kernel)]; exact ⟨rfl, rfl⟩)
theorem over : Rows.deviceRepeatsRow.holds Tryz.pinned (OpenSpec.ofChange Rows.deviceRepeatsSpec) :=
  OpenClaim.holds_of_wide 4 Tryz.f4 rfl rfl rfl rfl rfl rfl rfl ⟨rfl, rfl, rfl, rfl, rfl⟩ rfl rfl rfl rfl rfl over1 Tryz.func4 over2 over3 over4
    (fun os started H enc _ => lifted os started H enc)

theorem proved : Rows.DeviceRepeatsSaid :=
  over
#print axioms proved
end Go.Proofs.YtndjepeolamedaaGreat.deviceRepeats
namespace Go.Proofs.YtndjepeolamedaaGreat
theorem deviceRepeats_holds : Rows.DeviceRepeatsSaid := deviceRepeats.proved
end Go.Proofs.YtndjepeolamedaaGreat
