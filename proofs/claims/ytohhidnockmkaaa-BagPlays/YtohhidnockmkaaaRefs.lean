/- What the reference's functions of layer 1 answer, and the statement's own product. -/
import Derived.Test.YtohhidnockmkaaaPoly
namespace Go.Proofs.Ytohhidnockmkaaa
open Go.RowKit

theorem bit_one' (p i : Nat) (hp : p < 18446744073709551616) (hi : i < 64) : (bits .and .u64 ((p : Int) / 2 ^ i) 1 == 1) = p.testBit i := by
  have := bit_one p i hp; rwa [Nat.min_eq_left (by omega)] at this
theorem bit_num' (p i : Nat) (hp : p < 18446744073709551616) (hi : i < 64) : bits .and .u64 ((p : Int) / 2 ^ i) 1 = ((p.testBit i).toNat : Int) := by
  have := bit_num p i hp; rwa [Nat.min_eq_left (by omega)] at this
theorem bit_not' (p i : Nat) (hp : p < 18446744073709551616) (hi : i < 64) : (bits .and .u64 ((p : Int) / 2 ^ i) 1 != 0) = p.testBit i := by
  have := bit_not p i hp; rwa [Nat.min_eq_left (by omega)] at this
theorem lost_no (a i : Nat) : ((a : Int) <<< i / 2 ^ i != (a : Int)) = false := by
  have e : (a : Int) <<< i / 2 ^ i = (a : Int) := by
    rw [Int.shiftLeft_eq]
    exact Int.mul_ediv_cancel _ (Int.ne_of_gt (Int.pow_pos (by decide)))
  rw [e]; simp

set_option maxHeartbeats 400000 in
theorem refDegree_any (p : Nat) (w : World) (hp : p < 18446744073709551616) :
    Calls Try.prog 43 #[.int .u64 p] w fun e w' => e = .returned (.int .i64 ((PM.bl p : Nat) - 1 : Int)) ∧ w' = w := by
  go_enter Try.func43, Try.ntmps43
  go_wp2
  go_loop [3, 4] (fun d c => ∃ i : Nat, i ≤ 64 ∧ c = .int .i64 i ∧ d = .int .i64 ((PM.bl (p % 2 ^ i) : Nat) - 1 : Int)) (fun _ c => 64 - (intOf c).toNat)
  case atStart => exact ⟨0, by omega, rfl, congrArg (Value.int .i64) (by rw [show p % 2 ^ 0 = 0 by omega]; rfl)⟩
  case round =>
    obtain ⟨i, hi, rfl, rfl⟩ := hrel
    by_cases hlt : i < 64
    · cases hbit : p.testBit i
      · have t1 : (bits .and .u64 ((p : Int) / 2 ^ i) 1 != 0) = false := by rw [bit_not' p i hp hlt]; exact hbit
        go_wp2
        go_round
        case rel => exact ⟨i + 1, by omega, by go_num, by rw [PM.bl_mod_false hbit]⟩
        case measure => simp [intOf] <;> omega
      · have t1 : (bits .and .u64 ((p : Int) / 2 ^ i) 1 != 0) = true := by rw [bit_not' p i hp hlt]; exact hbit
        go_wp2
        go_round
        case rel => exact ⟨i + 1, by omega, by go_num, congrArg (Value.int .i64) (by rw [PM.bl_mod_true hbit]; omega)⟩
        case measure => simp [intOf] <;> omega
    · go_wp2
      go_ret
      exact ⟨ret_int (by rw [show i = 64 by omega, Nat.mod_eq_of_lt (show p < 2 ^ 64 from hp)]), rfl⟩

end Go.Proofs.Ytohhidnockmkaaa
