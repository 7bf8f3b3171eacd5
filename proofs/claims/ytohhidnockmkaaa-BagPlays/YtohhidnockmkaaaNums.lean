/- Go's shifts and bit operations on words of 64 bits, said of natural numbers. Nothing of the program is named here. -/
import Derived.WalkKit
import Derived.Laws.BitsAllLaws
import Derived.Test.YtohhidnockmkaaaMath
namespace Go.Proofs.Ytohhidnockmkaaa
open Go.RowKit

theorem shr_nat (p i : Nat) (hp : p < 18446744073709551616) : (p : Int) / 2 ^ min i 64 = ((p >>> i : Nat) : Int) := by
  rw [Nat.shiftRight_eq_div_pow]
  rcases Nat.le_total i 64 with h | h
  · rw [Nat.min_eq_left h]; simp
  · rw [Nat.min_eq_right h]
    have h1 : p / 2 ^ i = 0 := Nat.div_eq_of_lt (Nat.lt_of_lt_of_le hp (show 2 ^ 64 ≤ 2 ^ i from Nat.pow_le_pow_right (by omega) h))
    rw [h1]
    exact Int.ediv_eq_zero_of_lt (by omega) (by omega)

theorem and_one (a : Nat) (h : a < 18446744073709551616) : bits .and .u64 (a : Int) 1 = ((a % 2 : Nat) : Int) := by
  have := u64_and_nat a 1 h (by omega)
  rw [nat_mask1] at this
  exact this

theorem shr_lt (p i : Nat) (hp : p < 18446744073709551616) : p >>> i < 18446744073709551616 := by
  rw [Nat.shiftRight_eq_div_pow]; exact Nat.lt_of_le_of_lt (Nat.div_le_self _ _) hp

theorem shr_bit (p i : Nat) : p >>> i % 2 = (p.testBit i).toNat := by
  rw [Nat.toNat_testBit, Nat.shiftRight_eq_div_pow]

theorem bit_one (p i : Nat) (hp : p < 18446744073709551616) : (bits .and .u64 ((p : Int) / 2 ^ min i 64) 1 == 1) = p.testBit i := by
  rw [shr_nat p i hp, and_one _ (shr_lt p i hp), shr_bit]
  cases p.testBit i <;> rfl

theorem bit_num (p i : Nat) (hp : p < 18446744073709551616) : bits .and .u64 ((p : Int) / 2 ^ min i 64) 1 = ((p.testBit i).toNat : Int) := by
  rw [shr_nat p i hp, and_one _ (shr_lt p i hp), shr_bit]

theorem bit_not (p i : Nat) (hp : p < 18446744073709551616) : (bits .and .u64 ((p : Int) / 2 ^ min i 64) 1 != 0) = p.testBit i := by
  rw [bit_num p i hp]
  cases p.testBit i <;> rfl

theorem shl_nat (q i : Nat) (h : q <<< i < 18446744073709551616) : IntKind.u64.wrap ((q : Int) * 2 ^ min i 64) = ((q <<< i : Nat) : Int) := by
  rw [IntKind.wrap_u64, Nat.shiftLeft_eq] at *
  rcases Nat.le_total i 64 with h1 | h1
  · rw [Nat.min_eq_left h1]
    have e : (q : Int) * 2 ^ i = ((q * 2 ^ i : Nat) : Int) := by simp
    rw [e]; omega
  · rw [Nat.min_eq_right h1]
    have h2 : 2 ^ 64 ≤ 2 ^ i := Nat.pow_le_pow_right (by omega) h1
    have hq : q = 0 := by
      rcases Nat.eq_zero_or_pos q with e | e
      · exact e
      · have := Nat.le_mul_of_pos_left (2 ^ i) e
        omega
    subst hq; simp

theorem shl_mod (q i : Nat) : IntKind.u64.wrap ((q : Int) * 2 ^ min i 64) = ((q <<< i % 18446744073709551616 : Nat) : Int) := by
  rw [IntKind.wrap_u64, Nat.shiftLeft_eq]
  rcases Nat.le_total i 64 with h1 | h1
  · rw [Nat.min_eq_left h1]
    have e : (q : Int) * 2 ^ i = ((q * 2 ^ i : Nat) : Int) := by simp
    rw [e]; omega
  · rw [Nat.min_eq_right h1]
    obtain ⟨j, rfl⟩ := Nat.exists_eq_add_of_le h1
    rw [Nat.pow_add, Nat.mul_left_comm]
    omega

theorem wrap_pow (e j : Nat) (h : e = j) (hj : j < 64) : IntKind.u64.wrap (2 ^ e) = ((2 ^ j : Nat) : Int) := by
  subst h
  have h1 : 2 ^ e < 2 ^ 64 := Nat.pow_lt_pow_right (by omega) hj
  have e1 : (2 : Int) ^ e = ((2 ^ e : Nat) : Int) := by simp
  rw [IntKind.wrap_u64, e1]
  generalize 2 ^ e = z at h1
  omega
theorem wrap_shl (q e j : Nat) (h : e = j) (hj : q <<< j < 18446744073709551616) : IntKind.u64.wrap ((q : Int) * 2 ^ e) = ((q <<< j : Nat) : Int) := by
  subst h
  rw [Nat.shiftLeft_eq] at *
  have e1 : (q : Int) * 2 ^ e = ((q * 2 ^ e : Nat) : Int) := by simp
  rw [IntKind.wrap_u64, e1]; omega
theorem pow_lt64 {j : Nat} (hj : j < 64) : 2 ^ j < 18446744073709551616 := show 2 ^ j < 2 ^ 64 from Nat.pow_lt_pow_right (by omega) hj
theorem shl_lt64 {q d j : Nat} (hq : PM.Deg q d) (hj : d + j < 64) : q <<< j < 18446744073709551616 :=
  Nat.lt_of_lt_of_le (PM.shl_lt hq j) (show 2 ^ (d + j + 1) ≤ 2 ^ 64 from Nat.pow_le_pow_right (by omega) (by omega))

theorem xor_nat (a b : Nat) (ha : a < 18446744073709551616) (hb : b < 18446744073709551616) : bits .xor .u64 (a : Int) (b : Int) = ((a ^^^ b : Nat) : Int) := u64_xor_nat a b ha hb
theorem or_nat (a b : Nat) (ha : a < 18446744073709551616) (hb : b < 18446744073709551616) : bits .or .u64 (a : Int) (b : Int) = ((a ||| b : Nat) : Int) := u64_or_nat a b ha hb
theorem xor_lt64 {a b : Nat} (ha : a < 18446744073709551616) (hb : b < 18446744073709551616) : a ^^^ b < 18446744073709551616 := Nat.xor_lt_two_pow (n := 64) ha hb
theorem or_lt64 {a b : Nat} (ha : a < 18446744073709551616) (hb : b < 18446744073709551616) : a ||| b < 18446744073709551616 := Nat.or_lt_two_pow (n := 64) ha hb

end Go.Proofs.Ytohhidnockmkaaa
