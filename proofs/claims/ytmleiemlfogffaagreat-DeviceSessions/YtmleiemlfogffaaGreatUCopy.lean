/- A unit with its own data. -/
import Derived.Test.YtmleiemlfogffaaGreatUEnc2
namespace Go.Proofs.YtmleiemlfogffaaGreat
set_option maxRecDepth 100000
open Go.RowKit
theorem box_zero (w : World) (wx : World) (hb : Below (w.alloc (.cells #[.int .i64 0, .int .u32 0, .int .u32 0, .int .u32 0, .int .i64 0, .slice none 0 0] 57)).heap.size (w.alloc (.cells #[.int .i64 0, .int .u32 0, .int .u32 0, .int .u32 0, .int .i64 0, .slice none 0 0] 57)) wx) :
    Box wx w.heap.size 0 0 0 0 0 (.slice none 0 0) := box_new w 0 0 0 0 0 _ wx hb
theorem unit_frozen (w : World) (o : Array Value) (i : Nat) (wx : World) (hb : Below (w.alloc (.cells o 57)).heap.size (w.alloc (.cells o 57)) wx) : wx.frozen? ⟨w.heap.size, i, none⟩ = false := by
  rw [hb.frozen (p := ⟨w.heap.size, i, none⟩) (by simp)]
  simp

end Go.Proofs.YtmleiemlfogffaaGreat
