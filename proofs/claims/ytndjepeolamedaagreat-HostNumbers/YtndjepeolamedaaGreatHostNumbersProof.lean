/- For every input the Go function HostNumbers returns true, and its arguments read afterwards as they read before. No condition. -/
import Derived.Test.YtndjepeolamedaaGreatHostNumbersLift
import Derived.Test.YtndjepeolamedaaGreatRows
import Derived.WalkKit
import Derived.ProofKit
import Derived.OpenShut
import Derived.ShutString
import Derived.ChangeOld
import Derived.Below
namespace Go.Proofs.YtndjepeolamedaaGreat.hostNumbers
open Go.ChangeShapes Go.WideShapes Go.ChangeAt Go.RowKit
open Go.ChangeMaps (open_string shut_string)
set_option linter.unusedVariables false
theorem over1 : Tryz.pinned.checked.prog.funcNamed Rows.hostNumbersRow.func = some 8 := by kernel_rfl
theorem over2 : joinedFacts Tryz.pinned.checked.prog 8 Tryz.f8 Rows.hostNumbersSpec Rows.hostNumbersRow = true := by kernel_rfl
theorem over3 : Tryz.f8.isInstance Tryz.pinned.checked.prog Rows.hostNumbersRow.origin Rows.hostNumbersRow.targs := of_decide_eq_true (by kernel_rfl)
theorem over4 : Tryz.f8.isWrapper Tryz.pinned.checked.prog Rows.hostNumbersRow.wrapper Rows.hostNumbersRow.mainSum := by unfold Func.isWrapper; first | (rw [if_pos (by decide +kernel)]; kernel_rfl) | (rw [if_neg (by decide +kernel)]; exact ⟨rfl, rfl⟩)
theorem over : Rows.hostNumbersRow.holds Tryz.pinned (OpenSpec.ofChange Rows.hostNumbersSpec) :=
  OpenClaim.holds_of_wide 8 Tryz.f8 rfl rfl rfl rfl rfl rfl rfl ⟨rfl, rfl, rfl, rfl, rfl⟩ rfl rfl rfl rfl rfl over1 Tryz.func8 over2 over3 over4
    (fun os started H enc _ => lifted os started H enc)

theorem proved : Rows.HostNumbersSaid := over
#print axioms proved
end Go.Proofs.YtndjepeolamedaaGreat.hostNumbers
namespace Go.Proofs.YtndjepeolamedaaGreat
theorem hostNumbers_holds : Rows.HostNumbersSaid := hostNumbers.proved
end Go.Proofs.YtndjepeolamedaaGreat
