/- For every input the Go function MuxApart returns true, and its arguments read afterwards as they read before. No condition. -/
import Derived.Test.YthbogkaoidbpgaaGreatMuxApartLift
import Derived.Test.YthbogkaoidbpgaaGreatRows
import Derived.WalkKit
import Derived.ProofKit
import Derived.OpenShut
import Derived.ShutString
import Derived.ChangeOld
import Derived.Below
namespace Go.Proofs.YthbogkaoidbpgaaGreat.muxApart
open Go.ChangeShapes Go.WideShapes Go.ChangeAt Go.RowKit
open Go.ChangeMaps (open_string shut_string)
set_option linter.unusedVariables false
theorem over1 : Tryz.pinned.checked.prog.funcNamed Rows.muxApartRow.func = some 3 := by kernel_rfl
theorem over2 : joinedFacts Tryz.pinned.checked.prog 3 Tryz.f3 Rows.muxApartSpec Rows.muxApartRow = true := by kernel_rfl
theorem over3 : Tryz.f3.isInstance Tryz.pinned.checked.prog Rows.muxApartRow.origin Rows.muxApartRow.targs := of_decide_eq_true (by kernel_rfl)
theorem over4 : Tryz.f3.isWrapper Tryz.pinned.checked.prog Rows.muxApartRow.wrapper Rows.muxApartRow.mainSum := by unfold Func.isWrapper; first | (rw [if_pos (by decide +kernel)]; kernel_rfl) | (rw [if_neg (by decide +kernel)]; exact ⟨rfl, rfl⟩)
theorem over : Rows.muxApartRow.holds Tryz.pinned (OpenSpec.ofChange Rows.muxApartSpec) :=
  OpenClaim.holds_of_wide 3 Tryz.f3 rfl rfl rfl rfl rfl rfl rfl ⟨rfl, rfl, rfl, rfl, rfl⟩ rfl rfl rfl rfl rfl over1 Tryz.func3 over2 over3 over4
    (fun os started H enc _ => lifted os started H enc)

theorem proved : Rows.MuxApartSaid := over
#print axioms proved
end Go.Proofs.YthbogkaoidbpgaaGreat.muxApart
namespace Go.Proofs.YthbogkaoidbpgaaGreat
theorem muxApart_holds : Rows.MuxApartSaid := muxApart.proved
end Go.Proofs.YthbogkaoidbpgaaGreat
