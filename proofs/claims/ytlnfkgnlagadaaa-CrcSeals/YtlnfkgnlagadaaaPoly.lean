/- What each function of package poly answers, said of natural numbers. -/
import Derived.Test.YtlnfkgnlagadaaaBits
namespace Go.Proofs.Ytlnfkgnlagadaaa
open Go.RowKit

set_option maxHeartbeats 400000 in
theorem degree_any (p : Nat) (w : World) (hp : p < 18446744073709551616) :
    Calls Try.prog 46 #[.int .u64 p] w fun e w' => e = .returned (.int .i64 ((PM.bl p : Nat) - 1 : Int)) ∧ w' = w := by
  have hb := PM.bl_le (n := p) (k := 64) (by omega)
  go_enter Try.func46, Try.ntmps46
  go_wp2_with (go_at_call 55; refine (len64_any _ _ hp).mono ?_; rintro e w' ⟨rfl, rfl⟩)
  go_ret
  exact ⟨rfl, rfl⟩
set_option maxHeartbeats 400000 in
theorem hasTerm_any (p : Nat) (i : Nat) (w : World) (hp : p < 18446744073709551616) :
    Calls Try.prog 45 #[.int .u64 p, .int .i64 i] w fun e w' => e = .returned (.bool (p.testBit i)) ∧ w' = w := by
  go_enter Try.func45, Try.ntmps45
  go_wp2
  go_ret
  exact ⟨ret_bool (bit_one p i hp), rfl⟩
theorem hasTerm_at (p : Nat) (i : Int) (k : Nat) (w : World) (hp : p < 18446744073709551616) (hk : i = k) :
    Calls Try.prog 45 #[.int .u64 p, .int .i64 i] w fun e w' => e = .returned (.bool (p.testBit k)) ∧ w' = w := by
  subst hk; exact hasTerm_any p k w hp
set_option maxHeartbeats 400000 in
theorem divMod_zero (p : Nat) (w : World) :
    Calls Try.prog 59 #[.int .u64 p, .int .u64 0] w fun e w' => e = .returned (.tuple #[.int .u64 0, .int .u64 0, .int .i64 10]) ∧ w' = w := by
  go_enter Try.func59, Try.ntmps59
  go_wp2
  go_ret3
  exact ⟨rfl, rfl⟩
set_option maxHeartbeats 400000 in
theorem divMod_any (p q : Nat) (w : World) (hp : p < 18446744073709551616) (hq : q < 18446744073709551616) (h0 : q ≠ 0) :
    Calls Try.prog 59 #[.int .u64 p, .int .u64 q] w fun e w' => e = .returned (.tuple #[.int .u64 (PM.Q q p), .int .u64 (PM.R q q.log2 p), .int .i64 0]) ∧ w' = w := by
  have hb := PM.bl_le (n := p) (k := 64) (by omega)
  have hb2 := PM.bl_le (n := q) (k := 64) (by omega)
  have hqz : ((q : Int) == 0) = false := by simpa using h0
  go_enter Try.func59, Try.ntmps59
  go_wp2_with (go_at_call 46; refine (degree_any _ _ (by assumption)).mono ?_; rintro e w' ⟨rfl, rfl⟩)
  have hl := PM.log2_lt64 h0 hq
  have hd : PM.bl q = q.log2 + 1 := PM.bl_pos h0
  have hK : Hid (PM.dv q q.log2 (PM.bl p - q.log2) 0 p = (PM.Q q p, PM.R q q.log2 p)) := by
    rcases Nat.le_total q.log2 (PM.bl p) with h | h
    · exact PM.dv_short h0 hq hp (by rw [show q.log2 + (PM.bl p - q.log2) = PM.bl p by omega]; exact PM.lt_bl p) (by omega)
    · exact PM.dv_short h0 hq hp (Nat.lt_of_lt_of_le (PM.lt_bl p) (Nat.pow_le_pow_right (by omega) (by omega))) (by omega)
  have hd2 : Hid (PM.bl q = q.log2 + 1) := hd
  have hd3 : q.log2 + 1 ≤ PM.bl q ∧ PM.bl q ≤ q.log2 + 1 := by omega
  clear hd
  go_loop [7, 8, 22] (fun a r c => ∃ i x y : Nat, i ≤ PM.bl p - q.log2 ∧ c = .int .i64 i ∧ a = .int .u64 x ∧ r = .int .u64 y ∧ x < 18446744073709551616 ∧ y < 18446744073709551616 ∧ PM.dv q q.log2 (PM.bl p - q.log2 - i) x y = (PM.Q q p, PM.R q q.log2 p)) (fun _ _ c => (PM.bl p - q.log2) - (intOf c).toNat)
  case atStart => exact ⟨0, 0, p, by omega, rfl, rfl, rfl, by omega, hp, hK.out⟩
  case round =>
    obtain ⟨i, x, y, hi, rfl, rfl, rfl, hx, hy, hdv⟩ := hrel
    have HD : Hid (PM.dv q q.log2 (PM.bl p - q.log2 - i) x y = (PM.Q q p, PM.R q q.log2 p)) := hdv
    clear hdv
    by_cases hlt : i < PM.bl p - q.log2
    · cases hb : y.testBit (q.log2 + (PM.bl p - q.log2 - i - 1))
      · go_wp2_with (first | (go_at_call 46; refine (degree_any _ _ (by assumption)).mono ?_; rintro e w' ⟨rfl, rfl⟩) | (go_at_call 45; refine (hasTerm_at y _ (q.log2 + (PM.bl p - q.log2 - i - 1)) _ hy (by omega)).mono ?_; rintro e w' ⟨rfl, rfl⟩))
        go_round
        case rel => exact ⟨i + 1, x, y, by omega, by go_num, rfl, rfl, hx, hy, PM.dv_false HD hb (by omega) (by omega)⟩
        case measure => simp [intOf]; omega
      · go_wp2_with (first | (go_at_call 46; refine (degree_any _ _ (by assumption)).mono ?_; rintro e w' ⟨rfl, rfl⟩) | (go_at_call 45; refine (hasTerm_at y _ (q.log2 + (PM.bl p - q.log2 - i - 1)) _ hy (by omega)).mono ?_; rintro e w' ⟨rfl, rfl⟩))
        go_round
        case rel =>
          have hj : PM.bl p - q.log2 - i - 1 < 64 := by omega
          have hs := shl_lt64 (PM.deg_log2 h0) (j := PM.bl p - q.log2 - i - 1) (by omega)
          exact ⟨i + 1, x ||| 2 ^ (PM.bl p - q.log2 - i - 1), y ^^^ q <<< (PM.bl p - q.log2 - i - 1), by omega, by go_num,
            ret_word (by rw [wrap_pow _ (PM.bl p - q.log2 - i - 1) (by omega) hj]; exact or_nat _ _ hx (pow_lt64 hj)),
            ret_word (by rw [wrap_shl q _ (PM.bl p - q.log2 - i - 1) (by omega) hs]; exact xor_nat _ _ hy hs),
            or_lt64 hx (pow_lt64 hj), xor_lt64 hy hs, PM.dv_true HD hb (by omega) (by omega)⟩
        case measure => simp [intOf]; omega
    · go_wp2
      go_ret3
      have h := HD
      rw [show PM.bl p - q.log2 - i = 0 by omega] at h
      obtain ⟨e1, e2⟩ := Prod.mk.inj h
      exact ⟨by rw [← e1, ← e2]; rfl, rfl⟩
set_option maxHeartbeats 400000 in
theorem remainder_any (p q : Nat) (w : World) (hp : p < 18446744073709551616) (hq : q < 18446744073709551616) (h0 : q ≠ 0) :
    Calls Try.prog 56 #[.int .u64 p, .int .u64 q] w fun e w' => e = .returned (.int .u64 (PM.R q q.log2 p : Nat)) ∧ w' = w := by
  go_enter Try.func56, Try.ntmps56
  go_wp2_with (go_at_call 59; refine (divMod_any p q _ hp hq h0).mono ?_; rintro e w' ⟨rfl, rfl⟩)
  go_ret
  exact ⟨rfl, rfl⟩
theorem R_lt64 {q : Nat} (h0 : q ≠ 0) (hq : q < 18446744073709551616) (p : Nat) : PM.R q q.log2 p < 18446744073709551616 :=
  Nat.lt_trans (PM.R_lt (PM.deg_log2 h0) p) (pow_lt64 (PM.log2_lt64 h0 hq))
theorem app_num (r b : Nat) (hr : r < 9223372036854775808) (hb : b < 2) : bits .or .u64 ((r : Int) * 2) (b : Int) = ((2 * r + b : Nat) : Int) := by
  have e : (r : Int) * 2 = ((2 * r : Nat) : Int) := by omega
  rw [e, or_nat _ _ (by omega) (by omega), nat_join 1 _ _ (by omega) (by omega)]
set_option maxHeartbeats 400000 in
theorem appendBit_any (r b m : Nat) (w : World) (hm : m < 18446744073709551616) (h0 : m ≠ 0) (hr : r < 2 ^ m.log2) (hb : b < 2) :
    Calls Try.prog 34 #[.int .u64 r, .int .u64 b, .int .u64 m] w fun e w' => e = .returned (.int .u64 (PM.stp m m.log2 (2 * r + b) : Nat)) ∧ w' = w := by
  have hl := PM.log2_lt64 h0 hm
  have hr2 : r < 9223372036854775808 := Nat.lt_of_lt_of_le hr (show 2 ^ m.log2 ≤ 2 ^ 63 from Nat.pow_le_pow_right (by omega) (by omega))
  have hbl := PM.bl_pos h0
  have HB : Hid (PM.bl m = m.log2 + 1) := hbl
  have hb1 : PM.bl m ≤ m.log2 + 1 := by omega
  have hb2 : m.log2 + 1 ≤ PM.bl m := by omega
  clear hbl
  have hn := app_num r b hr2 hb
  generalize ht : 2 * r + b = t at hn ⊢
  have ht2 : t < 18446744073709551616 := by omega
  clear ht
  cases hc : t.testBit m.log2
  · go_enter Try.func34, Try.ntmps34
    go_wp2_with (first | (go_at_call 46; refine (degree_any _ _ (by assumption)).mono ?_; rintro e w' ⟨rfl, rfl⟩) | (go_at_call 45; refine (hasTerm_at t _ m.log2 _ ht2 (by omega)).mono ?_; rintro e w' ⟨rfl, rfl⟩))
    go_ret
    exact ⟨ret_int (by rw [PM.stp, hc]; rfl), rfl⟩
  · go_enter Try.func34, Try.ntmps34
    go_wp2_with (first | (go_at_call 46; refine (degree_any _ _ (by assumption)).mono ?_; rintro e w' ⟨rfl, rfl⟩) | (go_at_call 45; refine (hasTerm_at t _ m.log2 _ ht2 (by omega)).mono ?_; rintro e w' ⟨rfl, rfl⟩))
    go_ret
    exact ⟨ret_int (by rw [PM.stp, hc]; exact xor_nat _ _ ht2 hm), rfl⟩
set_option maxHeartbeats 400000 in
theorem mulModIn_any (p q m : Nat) (w : World) (hp : p < 18446744073709551616) (hq : q < 18446744073709551616) (hm : m < 18446744073709551616) (h0 : m ≠ 0) :
    Calls Try.prog 48 #[.int .u64 p, .int .u64 q, .int .u64 m] w fun e w' => e = .returned (.int .u64 (PM.R m m.log2 (PM.C p q) : Nat)) ∧ w' = w := by
  have hb := PM.bl_le (n := q) (k := 64) (by omega)
  go_enter Try.func48, Try.ntmps48
  go_wp2_with (first | (go_at_call 46; refine (degree_any _ _ (by assumption)).mono ?_; rintro e w' ⟨rfl, rfl⟩) | (go_at_call 56; refine (remainder_any p m _ hp hm h0).mono ?_; rintro e w' ⟨rfl, rfl⟩))
  go_loop [7, 17] (fun a c => ∃ i : Nat, i ≤ PM.bl q ∧ c = .int .i64 i ∧ a = .int .u64 (PM.R m m.log2 (PM.C p (q >>> (PM.bl q - i))) : Nat)) (fun _ c => PM.bl q - (intOf c).toNat)
  case atStart => exact ⟨0, by omega, rfl, ret_word (by rw [Nat.sub_zero, PM.shr_bl, PM.C_zero, PM.R_zero]; rfl)⟩
  case round =>
    obtain ⟨i, hi, rfl, rfl⟩ := hrel
    have hr := PM.R_lt (PM.deg_log2 h0) (PM.C p (q >>> (PM.bl q - i)))
    have hs := PM.stp_lt (PM.deg_log2 h0) (t := 2 * PM.R m m.log2 (PM.C p (q >>> (PM.bl q - i))) + 0) (by rw [Nat.pow_succ]; omega)
    have hs64 : PM.stp m m.log2 (2 * PM.R m m.log2 (PM.C p (q >>> (PM.bl q - i))) + 0) < 18446744073709551616 := Nat.lt_trans hs (pow_lt64 (PM.log2_lt64 h0 hm))
    by_cases hlt : i < PM.bl q
    · cases hc : q.testBit (PM.bl q - 1 - i)
      · go_wp2_with (first | (go_at_call 34; refine (appendBit_any _ 0 m _ hm h0 hr (by omega)).mono ?_; rintro e w' ⟨rfl, rfl⟩) | (go_at_call 45; refine (hasTerm_at q _ (PM.bl q - 1 - i) _ hq (by omega)).mono ?_; rintro e w' ⟨rfl, rfl⟩))
        go_round
        case rel => exact ⟨i + 1, by omega, by go_num, ret_word (by rw [← PM.mul_false hlt hc])⟩
        case measure => simp [intOf]; omega
      · go_wp2_with (first | (go_at_call 34; refine (appendBit_any _ 0 m _ hm h0 hr (by omega)).mono ?_; rintro e w' ⟨rfl, rfl⟩) | (go_at_call 45; refine (hasTerm_at q _ (PM.bl q - 1 - i) _ hq (by omega)).mono ?_; rintro e w' ⟨rfl, rfl⟩))
        go_round
        case rel => exact ⟨i + 1, by omega, by go_num, ret_word (by rw [← PM.mul_true hlt hc]; exact xor_nat _ _ hs64 (R_lt64 h0 hm p))⟩
        case measure => simp [intOf]; omega
    · go_wp2
      go_ret
      exact ⟨ret_int (by rw [show PM.bl q - i = 0 by omega]; rfl), rfl⟩
set_option maxHeartbeats 400000 in
theorem mulMod_any (p q m : Nat) (w : World) (hp : p < 18446744073709551616) (hq : q < 18446744073709551616) (hm : m < 18446744073709551616) (h0 : m ≠ 0) :
    Calls Try.prog 37 #[.int .u64 p, .int .u64 q, .int .u64 m] w fun e w' => e = .returned (.tuple #[.int .u64 (PM.R m m.log2 (PM.C p q) : Nat), .int .i64 0]) ∧ w' = w := by
  have hz : ((m : Int) == 0) = false := by simpa using h0
  go_enter Try.func37, Try.ntmps37
  go_wp2_with (go_at_call 48; refine (mulModIn_any p q m _ hp hq hm h0).mono ?_; rintro e w' ⟨rfl, rfl⟩)
  go_ret2
  exact ⟨rfl, rfl⟩
set_option maxHeartbeats 400000 in
theorem mulMod_zero (p q : Nat) (w : World) :
    Calls Try.prog 37 #[.int .u64 p, .int .u64 q, .int .u64 0] w fun e w' => e = .returned (.tuple #[.int .u64 0, .int .i64 10]) ∧ w' = w := by
  go_enter Try.func37, Try.ntmps37
  go_wp2
  go_ret2
  exact ⟨rfl, rfl⟩
set_option maxHeartbeats 400000 in
theorem powMod_zero (n : Nat) (w : World) :
    Calls Try.prog 49 #[.int .u64 n, .int .u64 0] w fun e w' => e = .returned (.tuple #[.int .u64 0, .int .i64 10]) ∧ w' = w := by
  go_enter Try.func49, Try.ntmps49
  go_wp2
  go_ret2
  exact ⟨rfl, rfl⟩
set_option maxHeartbeats 400000 in
theorem powMod_any (n m : Nat) (w : World) (hn : n < 18446744073709551616) (hm : m < 18446744073709551616) (h0 : m ≠ 0) :
    Calls Try.prog 49 #[.int .u64 n, .int .u64 m] w fun e w' => e = .returned (.tuple #[.int .u64 (PM.R m m.log2 (2 ^ n) : Nat), .int .i64 0]) ∧ w' = w := by
  have hz : ((m : Int) == 0) = false := by simpa using h0
  have hb := PM.bl_le (n := n) (k := 64) (by omega)
  go_enter Try.func49, Try.ntmps49
  go_wp2_with (first | (go_at_call 55; refine (len64_any n _ hn).mono ?_; rintro e w' ⟨rfl, rfl⟩) | (go_at_call 56; refine (remainder_any 1 m _ (by omega) hm h0).mono ?_; rintro e w' ⟨rfl, rfl⟩))
  go_loop [6, 16] (fun a c => ∃ i : Nat, i ≤ PM.bl n ∧ c = .int .i64 i ∧ a = .int .u64 (PM.R m m.log2 (2 ^ (n >>> (PM.bl n - i))) : Nat)) (fun _ c => PM.bl n - (intOf c).toNat)
  case atStart => exact ⟨0, by omega, rfl, ret_word (by rw [Nat.sub_zero, PM.shr_bl])⟩
  case round =>
    obtain ⟨i, hi, rfl, rfl⟩ := hrel
    have hr := R_lt64 h0 hm (2 ^ (n >>> (PM.bl n - i)))
    by_cases hlt : i < PM.bl n
    · have hr2 := PM.R_lt (PM.deg_log2 h0) (PM.C (PM.R m m.log2 (2 ^ (n >>> (PM.bl n - i)))) (PM.R m m.log2 (2 ^ (n >>> (PM.bl n - i)))))
      have he : Hid (PM.R m m.log2 (PM.C (PM.R m m.log2 (2 ^ (n >>> (PM.bl n - i)))) (PM.R m m.log2 (2 ^ (n >>> (PM.bl n - i))))) = PM.R m m.log2 (2 ^ (2 * (n >>> (PM.bl n - i))))) := PM.pow_dbl (PM.deg_log2 h0) _
      cases hc : n.testBit (PM.bl n - 1 - i)
      · go_wp2_with (first | (go_at_call 48; refine (mulModIn_any _ _ m _ hr hr hm h0).mono ?_; rintro e w' ⟨rfl, rfl⟩) | (go_at_call 45; refine (hasTerm_at n _ (PM.bl n - 1 - i) _ hn (by omega)).mono ?_; rintro e w' ⟨rfl, rfl⟩))
        go_round
        case rel => exact ⟨i + 1, by omega, by go_num, ret_word (by rw [he.out, PM.pow_false hlt hc])⟩
        case measure => simp [intOf]; omega
      · go_wp2_with (first | (go_at_call 48; refine (mulModIn_any _ _ m _ hr hr hm h0).mono ?_; rintro e w' ⟨rfl, rfl⟩) | (go_at_call 45; refine (hasTerm_at n _ (PM.bl n - 1 - i) _ hn (by omega)).mono ?_; rintro e w' ⟨rfl, rfl⟩) | (go_at_call 34; refine (appendBit_any _ 0 m _ hm h0 hr2 (by omega)).mono ?_; rintro e w' ⟨rfl, rfl⟩))
        go_round
        case rel => exact ⟨i + 1, by omega, by go_num, ret_word (by rw [he.out, ← PM.pow_true hlt hc])⟩
        case measure => simp [intOf]; omega
    · go_wp2
      go_ret2
      exact ⟨by rw [show PM.bl n - i = 0 by omega]; rfl, rfl⟩

end Go.Proofs.Ytlnfkgnlagadaaa
