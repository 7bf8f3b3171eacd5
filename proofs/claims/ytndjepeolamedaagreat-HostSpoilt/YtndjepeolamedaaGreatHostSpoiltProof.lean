/- For every input the Go function HostSpoilt returns true, and its arguments read afterwards as they read before. No condition. -/
import Derived.Test.YtndjepeolamedaaGreatHostSpoiltLift
import Derived.Test.YtndjepeolamedaaGreatRows
import Derived.WalkKit
import Derived.ProofKit
import Derived.OpenShut
import Derived.ShutString
import Derived.ChangeOld
import Derived.Below
namespace Go.Proofs.YtndjepeolamedaaGreat.hostSpoilt
open Go.ChangeShapes Go.WideShapes Go.ChangeAt Go.RowKit
open Go.ChangeMaps (open_string shut_string)
set_option linter.unusedVariables false
theorem over1 : Tryz.pinned.checked.prog.funcNamed Rows.hostSpoiltRow.func = some 9 := by kernel_rfl
theorem over2 : joinedFacts Tryz.pinned.checked.prog 9 Tryz.f9 Rows.hostSpoiltSpec Rows.hostSpoiltRow = true := by kernel_rfl
theorem over3 : Tryz.f9.isInstance Tryz.pinned.checked.prog Rows.hostSpoiltRow.origin Rows.hostSpoiltRow.targs := of_decide_eq_true (by kernel_rfl)
theorem over4 : Tryz.f9.isWrapper Tryz.pinned.checked.prog Rows.hostSpoiltRow.wrapper Rows.hostSpoiltRow.mainSum := by unfold Func.isWrapper; first | (rw [if_pos (by decide +kernel)]; kernel_rfl) | (rw [if_neg (by decide +kernel)]; exact ⟨rfl, rfl⟩)
theorem over : Rows.hostSpoiltRow.holds Tryz.pinned (OpenSpec.ofChange Rows.hostSpoiltSpec) :=
  OpenClaim.holds_of_wide 9 Tryz.f9 rfl rfl rfl rfl rfl rfl rfl ⟨rfl, rfl, rfl, rfl, rfl⟩ rfl rfl rfl rfl rfl over1 Tryz.func9 over2 over3 over4
    (fun os started H enc _ => lifted os started H enc)

theorem proved : Rows.HostSpoiltSaid := over
#print axioms proved
end Go.Proofs.YtndjepeolamedaaGreat.hostSpoilt
namespace Go.Proofs.YtndjepeolamedaaGreat
theorem hostSpoilt_holds : Rows.HostSpoiltSaid := hostSpoilt.proved
end Go.Proofs.YtndjepeolamedaaGreat
