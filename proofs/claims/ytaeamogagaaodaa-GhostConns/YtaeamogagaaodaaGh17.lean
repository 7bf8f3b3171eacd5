/- Layer 18: Check, whole: New and See by their contracts. -/
import Derived.Test.YtaeamogagaaodaaGh15
import Derived.Test.YtaeamogagaaodaaGh16
namespace Go.Proofs.Ytaeamogagaaodaa
open Go.RowKit Go.Maps
set_option maxRecDepth 100000
theorem gcheck (a0 : Option Addr) (l0 c0 : Nat) (P0 : Nat → Pg) (a1 : Option Addr) (l1 c1 : Nat) (P1 : Nat → Pg) (ms : Nat) (af : Option Addr) (lf cf : Nat) (F : Nat → Fa) (w : World) (h0 : PRow w a0 l0 P0) (h1 : PRow w a1 l1 P1) (k : Nat) (hk : min l0 l1 = k) (hk1 : k ≤ 1000) (hF : FRow w af lf F) (hO : ∀ i, i < lf → (F i).Ok) (hlf : lf ≤ 100000) :
    Calls Try.prog 15 #[.agg #[.slice a0 l0 c0, .slice a1 l1 c1, .int .u32 (ms : Nat)], .slice af lf cf] w fun r w' => r = .returned (.agg #[.int .i64 (sees (ju0 k (fun i => (P0 i).t) (fun i => (P1 i).t)) F lf).r, .int .i64 (sees (ju0 k (fun i => (P0 i).t) (fun i => (P1 i).t)) F lf).a]) ∧ Below w.heap.size w w' :=
  gcheck_core a0 l0 c0 a1 l1 c1 ms af lf cf F w (ju0 k (fun i => (P0 i).t) (fun i => (P1 i).t)) rfl (fun wx b => gnew a0 l0 c0 P0 a1 l1 c1 P1 ms wx (h0.below b) (h1.below b) k hk hk1) hF hO hlf
end Go.Proofs.Ytaeamogagaaodaa
