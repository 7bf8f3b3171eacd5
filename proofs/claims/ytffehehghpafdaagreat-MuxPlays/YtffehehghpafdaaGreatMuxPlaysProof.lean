/- For every input the Go function MuxPlays returns true, and its arguments read afterwards as they read before. No condition. -/
import Derived.Test.YtffehehghpafdaaGreatMuxPlaysLift
import Derived.Test.YtffehehghpafdaaGreatRows
import Derived.WalkKit
import Derived.ProofKit
import Derived.OpenShut
import Derived.ShutString
import Derived.ChangeOld
import Derived.Below
namespace Go.Proofs.YtffehehghpafdaaGreat.muxPlays
open Go.ChangeShapes Go.WideShapes Go.ChangeAt Go.RowKit
open Go.ChangeMaps (open_string shut_string)
set_option linter.unusedVariables false
theorem over1 : Tryz.pinned.checked.prog.funcNamed Rows.muxPlaysRow.func = some 3 := by kernel_rfl
theorem over2 : joinedFacts Tryz.pinned.checked.prog 3 Tryz.f3 Rows.muxPlaysSpec Rows.muxPlaysRow = true := by kernel_rfl
theorem over3 : Tryz.f3.isInstance Tryz.pinned.checked.prog Rows.muxPlaysRow.origin Rows.muxPlaysRow.targs := of_decide_eq_true (by kernel_rfl)
theorem over4 : Tryz.f3.isWrapper Tryz.pinned.checked.prog Rows.muxPlaysRow.wrapper Rows.muxPlaysRow.mainSum := by unfold Func.isWrapper; first | (rw [if_pos (by decide +kernel)]; kernel_rfl) | (rw [if_neg (by decide +kernel)]; exact ⟨rfl, rfl⟩)
theorem over : Rows.muxPlaysRow.holds Tryz.pinned (OpenSpec.ofChange Rows.muxPlaysSpec) :=
  OpenClaim.holds_of_wide 3 Tryz.f3 rfl rfl rfl rfl rfl rfl rfl ⟨rfl, rfl, rfl, rfl, rfl⟩ rfl rfl rfl rfl rfl over1 Tryz.func3 over2 over3 over4
    (fun os started H enc _ => lifted os started H enc)

theorem proved : Rows.MuxPlaysSaid := over
#print axioms proved
end Go.Proofs.YtffehehghpafdaaGreat.muxPlays
namespace Go.Proofs.YtffehehghpafdaaGreat
theorem muxPlays_holds : Rows.MuxPlaysSaid := muxPlays.proved
end Go.Proofs.YtffehehghpafdaaGreat
