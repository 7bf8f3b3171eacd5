/- The walks of the statements of layer 2 without tables: CrcDivides, CrcJoins. -/
import Derived.Test.YthddomhlkljlkaaCref
import Derived.OpenShut
import Derived.Deep.RegionWith
namespace Go.Proofs.Ythddomhlkljlkaa
open Go.RowKit

theorem nat32' {a : Int} (h : (Lit.int .u32 a).wf = true) : ∃ n : Nat, a = n ∧ n < 4294967296 := by
  have := bounds_u32 h
  exact ⟨a.toNat, by omega, by omega⟩

end Go.Proofs.Ythddomhlkljlkaa
