/- What the reference's functions of layer 1 answer, and the statement's own product. -/
import Derived.Test.YthddomhlkljlkabPoly
namespace Go.Proofs.Ythddomhlkljlkab
open Go.RowKit

theorem bit_one' (p i : Nat) (hp : p < 18446744073709551616) (hi : i < 64) : (bits .and .u64 ((p : Int) / 2 ^ i) 1 == 1) = p.testBit i := by
  have := bit_one p i hp; rwa [Nat.min_eq_left (by omega)] at this
theorem bit_num' (p i : Nat) (hp : p < 18446744073709551616) (hi : i < 64) : bits .and .u64 ((p : Int) / 2 ^ i) 1 = ((p.testBit i).toNat : Int) := by
  have := bit_num p i hp; rwa [Nat.min_eq_left (by omega)] at this
theorem bit_not' (p i : Nat) (hp : p < 18446744073709551616) (hi : i < 64) : (bits .and .u64 ((p : Int) / 2 ^ i) 1 != 0) = p.testBit i := by
  have := bit_not p i hp; rwa [Nat.min_eq_left (by omega)] at this
theorem lost_no (a i : Nat) : ((a : Int) <<< i / 2 ^ i != (a : Int)) = false := by
  have e : (a : Int) <<< i / 2 ^ i = (a : Int) := by
    rw [Int.shiftLeft_eq]
    exact Int.mul_ediv_cancel _ (Int.ne_of_gt (Int.pow_pos (by decide)))
  rw [e]; simp


end Go.Proofs.Ythddomhlkljlkab
