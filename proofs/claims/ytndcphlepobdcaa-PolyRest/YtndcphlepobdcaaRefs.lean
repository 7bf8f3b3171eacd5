/- What the reference's functions of layer 1 answer, and the statement's own product. -/
import Derived.Test.YtndcphlepobdcaaPoly
namespace Go.Proofs.Ytndcphlepobdcaa
open Go.RowKit

theorem bit_one' (p i : Nat) (hp : p < 18446744073709551616) (hi : i < 64) : (bits .and .u64 ((p : Int) / 2 ^ i) 1 == 1) = p.testBit i := by
  have := bit_one p i hp; rwa [Nat.min_eq_left (by omega)] at this
theorem bit_num' (p i : Nat) (hp : p < 18446744073709551616) (hi : i < 64) : bits .and .u64 ((p : Int) / 2 ^ i) 1 = ((p.testBit i).toNat : Int) := by
  have := bit_num p i hp; rwa [Nat.min_eq_left (by omega)] at this
theorem bit_not' (p i : Nat) (hp : p < 18446744073709551616) (hi : i < 64) : (bits .and .u64 ((p : Int) / 2 ^ i) 1 != 0) = p.testBit i := by
  have := bit_not p i hp; rwa [Nat.min_eq_left (by omega)] at this
theorem lost_no (a i : Nat) : ((a : Int) <<< i / 2 ^ i != (a : Int)) = false := by
  have e : (a : Int) <<< i / 2 ^ i = (a : Int) := by
    rw [Int.shiftLeft_eq]
    exact Int.mul_ediv_cancel _ (Int.ne_of_gt (Int.pow_pos (by decide)))
  rw [e]; simp

set_option maxHeartbeats 400000 in
theorem product_any (a b : Nat) (w : World) (hb : b < 18446744073709551616) (hs : ∀ i, b.testBit i = true → a <<< i < 18446744073709551616) (hc : ∀ i, i ≤ 64 → PM.cl a b i < 18446744073709551616) :
    Calls Try.prog 18 #[.int .u64 a, .int .u64 b] w fun e w' => e = .returned (.tuple #[.int .u64 (PM.C a b : Nat), .bool false]) ∧ w' = w := by
  go_enter Try.func18, Try.ntmps18
  go_wp2
  go_loop [6, 7, 8] (fun o l c => ∃ i : Nat, i ≤ 64 ∧ c = .int .i64 i ∧ l = .bool false ∧ o = .int .u64 (PM.cl a b i : Nat)) (fun _ _ c => 64 - (intOf c).toNat)
  case atStart => exact ⟨0, by omega, rfl, rfl, rfl⟩
  case round =>
    obtain ⟨i, hi, rfl, rfl, rfl⟩ := hrel
    by_cases hlt : i < 64
    · have hx := hc i hi
      cases hbit : b.testBit i
      · have t1 : (bits .and .u64 ((b : Int) / 2 ^ i) 1 != 0) = false := by rw [bit_not' b i hb hlt]; exact hbit
        clear hs hc
        go_wp2
        go_round
        case rel => exact ⟨i + 1, by omega, by go_num, rfl, by rw [PM.cl_false hbit]⟩
        case measure => simp [intOf]; omega
      · have t1 : (bits .and .u64 ((b : Int) / 2 ^ i) 1 != 0) = true := by rw [bit_not' b i hb hlt]; exact hbit
        have hsi := hs i hbit
        have t2 := wrap_shl a i i rfl hsi
        clear hs hc
        go_wp2
        go_round
        case rel => exact ⟨i + 1, by omega, by go_num, congrArg Value.bool (lost_no a i), ret_word (by rw [PM.cl_true hbit]; exact xor_nat _ _ hx hsi)⟩
        case measure => simp [intOf]; omega
    · go_wp2
      go_ret2
      exact ⟨by rw [show i = 64 by omega, PM.cl_eq_C a b 64 hb]; rfl, rfl⟩

end Go.Proofs.Ytndcphlepobdcaa
