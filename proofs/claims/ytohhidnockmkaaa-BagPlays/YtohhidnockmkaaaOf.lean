/- What Of answers, the code's and the reference's: the remainder of the bytes' bits. -/
import Derived.Test.YtohhidnockmkaaaMem
import Derived.Test.YtohhidnockmkaaaRowv
import Derived.Laws.AppendOwnNone
namespace Go.Proofs.Ytohhidnockmkaaa
open Go.RowKit

theorem bit8 (x k : Nat) (hx : x < 256) : bits .and .u8 ((x : Int) / 2 ^ k) 1 = ((x.testBit k).toNat : Int) := by
  have e : (x : Int) / 2 ^ k = ((x >>> k : Nat) : Int) := by rw [Nat.shiftRight_eq_div_pow]; simp
  have hl : x >>> k < 256 := by rw [Nat.shiftRight_eq_div_pow]; exact Nat.lt_of_le_of_lt (Nat.div_le_self _ _) hx
  have h := u8_and_nat (x >>> k) 1 hl (by omega)
  rw [nat_mask1, shr_bit] at h
  rw [e]
  exact h


end Go.Proofs.Ytohhidnockmkaaa
