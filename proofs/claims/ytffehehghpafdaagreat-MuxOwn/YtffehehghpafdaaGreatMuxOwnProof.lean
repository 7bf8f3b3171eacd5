/- For every input the Go function MuxOwn returns true, and its arguments read afterwards as they read before. No condition. -/
import Derived.Test.YtffehehghpafdaaGreatMuxOwnLift
import Derived.Test.YtffehehghpafdaaGreatRows
import Derived.WalkKit
import Derived.ProofKit
import Derived.OpenShut
import Derived.ShutString
import Derived.ChangeOld
import Derived.Below
namespace Go.Proofs.YtffehehghpafdaaGreat.muxOwn
open Go.ChangeShapes Go.WideShapes Go.ChangeAt Go.RowKit
open Go.ChangeMaps (open_string shut_string)
set_option linter.unusedVariables false
theorem over1 : Tryz.pinned.checked.prog.funcNamed Rows.muxOwnRow.func = some 6 := by kernel_rfl
theorem over2 : joinedFacts Tryz.pinned.checked.prog 6 Tryz.f6 Rows.muxOwnSpec Rows.muxOwnRow = true := by kernel_rfl
theorem over3 : Tryz.f6.isInstance Tryz.pinned.checked.prog Rows.muxOwnRow.origin Rows.muxOwnRow.targs := of_decide_eq_true (by kernel_rfl)
theorem over4 : Tryz.f6.isWrapper Tryz.pinned.checked.prog Rows.muxOwnRow.wrapper Rows.muxOwnRow.mainSum := by unfold Func.isWrapper; first | (rw [if_pos (by decide +kernel)]; kernel_rfl) | (rw [if_neg (by decide +kernel)]; exact ⟨rfl, rfl⟩)
theorem over : Rows.muxOwnRow.holds Tryz.pinned (OpenSpec.ofChange Rows.muxOwnSpec) :=
  OpenClaim.holds_of_wide 6 Tryz.f6 rfl rfl rfl rfl rfl rfl rfl ⟨rfl, rfl, rfl, rfl, rfl⟩ rfl rfl rfl rfl rfl over1 Tryz.func6 over2 over3 over4
    (fun os started H enc _ => lifted os started H enc)

theorem proved : Rows.MuxOwnSaid := over
#print axioms proved
end Go.Proofs.YtffehehghpafdaaGreat.muxOwn
namespace Go.Proofs.YtffehehghpafdaaGreat
theorem muxOwn_holds : Rows.MuxOwnSaid := muxOwn.proved
end Go.Proofs.YtffehehghpafdaaGreat
