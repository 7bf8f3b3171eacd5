/- For every input the Go function HostOwn returns true, and its arguments read afterwards as they read before. No condition. -/
import Derived.Test.YtndjepeolamedaaGreatHostOwnLift
import Derived.Test.YtndjepeolamedaaGreatRows
import Derived.WalkKit
import Derived.ProofKit
import Derived.OpenShut
import Derived.ShutString
import Derived.ChangeOld
import Derived.Below
namespace Go.Proofs.YtndjepeolamedaaGreat.hostOwn
open Go.ChangeShapes Go.WideShapes Go.ChangeAt Go.RowKit
open Go.ChangeMaps (open_string shut_string)
set_option linter.unusedVariables false
theorem over1 : Tryz.pinned.checked.prog.funcNamed Rows.hostOwnRow.func = some 11 := by kernel_rfl
theorem over2 : joinedFacts Tryz.pinned.checked.prog 11 Tryz.f11 Rows.hostOwnSpec Rows.hostOwnRow = true := by kernel_rfl
theorem over3 : Tryz.f11.isInstance Tryz.pinned.checked.prog Rows.hostOwnRow.origin Rows.hostOwnRow.targs := of_decide_eq_true (by kernel_rfl)
theorem over4 : Tryz.f11.isWrapper Tryz.pinned.checked.prog Rows.hostOwnRow.wrapper Rows.hostOwnRow.mainSum := by unfold Func.isWrapper; first | (rw [if_pos (by decide +kernel)]; kernel_rfl) | (rw [if_neg (by decide +kernel)]; exact ⟨rfl, rfl⟩)
theorem over : Rows.hostOwnRow.holds Tryz.pinned (OpenSpec.ofChange Rows.hostOwnSpec) :=
  OpenClaim.holds_of_wide 11 Tryz.f11 rfl rfl rfl rfl rfl rfl rfl ⟨rfl, rfl, rfl, rfl, rfl⟩ rfl rfl rfl rfl rfl over1 Tryz.func11 over2 over3 over4
    (fun os started H enc _ => lifted os started H enc)

theorem proved : Rows.HostOwnSaid := over
#print axioms proved
end Go.Proofs.YtndjepeolamedaaGreat.hostOwn
namespace Go.Proofs.YtndjepeolamedaaGreat
theorem hostOwn_holds : Rows.HostOwnSaid := hostOwn.proved
end Go.Proofs.YtndjepeolamedaaGreat
