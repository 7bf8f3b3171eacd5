/- What the reference's functions that make memory answer: Bits, MulMod, PowMod, Of. -/
import Derived.Test.YtohhidnockmkaaaRefs
namespace Go.Proofs.Ytohhidnockmkaaa
open Go.RowKit

theorem grown_trans {a b c : World} (h1 : Grown a b) (h2 : Grown b c) : Grown a c :=
  ⟨World.keptBut_trans h1.1 h2.1, fun x => (h2.2.1 x).trans (h1.2.1 x), Nat.le_trans h1.2.2 h2.2.2⟩

/-- New blocks alone, and the tape as it was. -/
structure Grew (w w' : World) : Prop where
  grown : Grown w w'
  below : Below w.heap.size w w'
theorem grew_trans {a b c : World} (h1 : Grew a b) (h2 : Grew b c) : Grew a c :=
  ⟨grown_trans h1.grown h2.grown, h1.below.trans (h2.below.mono h1.below.size)⟩
theorem grew_alloc (w : World) (A : Array Value) (t : TypeId) : Grew w (w.alloc (.cells A t)) := ⟨(Grown.refl w).alloc A t, (Below.refl _ _).alloc (Nat.le_refl _) _⟩
theorem dbl_num (r : Nat) : (r : Int) * 2 = ((2 * r : Nat) : Int) := by omega
theorem dbl_one (r : Nat) (hr : r < 9223372036854775808) : bits .xor .u64 ((r : Int) * 2) 1 = ((2 * r + 1 : Nat) : Int) := by
  rw [dbl_num r]
  have h := xor_nat (2 * r) 1 (by omega) (by omega)
  rw [← PM.dbl_add r 1 (by omega)] at h
  exact h


end Go.Proofs.Ytohhidnockmkaaa
