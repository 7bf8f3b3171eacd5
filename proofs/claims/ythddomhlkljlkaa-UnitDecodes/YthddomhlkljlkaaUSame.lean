/- Two units that are the same. -/
import Derived.Test.YthddomhlkljlkaaUCopy
namespace Go.Proofs.Ythddomhlkljlkaa
open Go.RowKit
set_option maxRecDepth 100000 in
set_option maxHeartbeats 1000000 in
theorem same_any (k : Int) (c s n : Nat) (f : Int) (a1 a2 : Option Addr) (len c1 c2 : Nat) (bs : Nat → Nat) (w : World) (r1 : Row8 w a1 len c1 bs) (r2 : Row8 w a2 len c2 bs) :
    Calls Try.prog 22 #[.agg #[.int .i64 k, .int .u32 c, .int .u32 s, .int .u32 n, .int .i64 f, .slice a1 len c1], .agg #[.int .i64 k, .int .u32 c, .int .u32 s, .int .u32 n, .int .i64 f, .slice a2 len c2]] w fun e w' => e = .returned (.bool true) ∧ Below w.heap.size w w' := by
  have hA : Below w.heap.size w (w.alloc (.cells #[.int .i64 k, .int .u32 c, .int .u32 s, .int .u32 n, .int .i64 f, .slice a1 len c1] 29)) := (Below.refl _ _).alloc (Nat.le_refl _) _
  have hB : Below w.heap.size w ((w.alloc (.cells #[.int .i64 k, .int .u32 c, .int .u32 s, .int .u32 n, .int .i64 f, .slice a1 len c1] 29)).alloc (.cells #[.int .i64 k, .int .u32 c, .int .u32 s, .int .u32 n, .int .i64 f, .slice a2 len c2] 29)) := hA.alloc hA.size _
  have h1 := conv_any a1 len c1 bs _ (r1.below hB)
  have h2 := conv_any a2 len c2 bs _ (r2.below hB)
  generalize BA bs len = X at *
  clear r1 r2 hA
  go_enter Try.func22, Try.ntmps22
  go_wp2_with fail
  go_ret
  exact ⟨rfl, hB⟩

end Go.Proofs.Ythddomhlkljlkaa
