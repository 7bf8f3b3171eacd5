/- For every input the Go function MuxNil returns true, and its arguments read afterwards as they read before. No condition. -/
import Derived.Test.YtffehehghpafdaaGreatMuxNilLift
import Derived.Test.YtffehehghpafdaaGreatRows
import Derived.WalkKit
import Derived.ProofKit
import Derived.OpenShut
import Derived.ShutString
import Derived.ChangeOld
import Derived.Below
namespace Go.Proofs.YtffehehghpafdaaGreat.muxNil
open Go.ChangeShapes Go.WideShapes Go.ChangeAt Go.RowKit
open Go.ChangeMaps (open_string shut_string)
set_option linter.unusedVariables false
theorem over1 : Tryz.pinned.checked.prog.funcNamed Rows.muxNilRow.func = some 5 := by kernel_rfl
theorem over2 : joinedFacts Tryz.pinned.checked.prog 5 Tryz.f5 Rows.muxNilSpec Rows.muxNilRow = true := by kernel_rfl
theorem over3 : Tryz.f5.isInstance Tryz.pinned.checked.prog Rows.muxNilRow.origin Rows.muxNilRow.targs := of_decide_eq_true (by kernel_rfl)
theorem over4 : Tryz.f5.isWrapper Tryz.pinned.checked.prog Rows.muxNilRow.wrapper Rows.muxNilRow.mainSum := by unfold Func.isWrapper; first | (rw [if_pos (by decide +kernel)]; kernel_rfl) | (rw [if_neg (by decide +kernel)]; exact ⟨rfl, rfl⟩)
theorem over : Rows.muxNilRow.holds Tryz.pinned (OpenSpec.ofChange Rows.muxNilSpec) :=
  OpenClaim.holds_of_wide 5 Tryz.f5 rfl rfl rfl rfl rfl rfl rfl ⟨rfl, rfl, rfl, rfl, rfl⟩ rfl rfl rfl rfl rfl over1 Tryz.func5 over2 over3 over4
    (fun os started H enc _ => lifted os started H enc)

theorem proved : Rows.MuxNilSaid := over
#print axioms proved
end Go.Proofs.YtffehehghpafdaaGreat.muxNil
namespace Go.Proofs.YtffehehghpafdaaGreat
theorem muxNil_holds : Rows.MuxNilSaid := muxNil.proved
end Go.Proofs.YtffehehghpafdaaGreat
