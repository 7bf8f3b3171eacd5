/- What the reference's functions of layer 1 answer, and the statement's own product. -/
import Derived.Test.YtndcphlepobdcaaPoly
namespace Go.Proofs.Ytndcphlepobdcaa
open Go.RowKit

theorem bit_one' (p i : Nat) (hp : p < 18446744073709551616) (hi : i < 64) : (bits .and .u64 ((p : Int) / 2 ^ i) 1 == 1) = p.testBit i := by
  have := bit_one p i hp; rwa [Nat.min_eq_left (by omega)] at this
theorem bit_num' (p i : Nat) (hp : p < 18446744073709551616) (hi : i < 64) : bits .and .u64 ((p : Int) / 2 ^ i) 1 = ((p.testBit i).toNat : Int) := by
  have := bit_num p i hp; rwa [Nat.min_eq_left (by omega)] at this
theorem bit_not' (p i : Nat) (hp : p < 18446744073709551616) (hi : i < 64) : (bits .and .u64 ((p : Int) / 2 ^ i) 1 != 0) = p.testBit i := by
  have := bit_not p i hp; rwa [Nat.min_eq_left (by omega)] at this
theorem lost_no (a i : Nat) : ((a : Int) <<< i / 2 ^ i != (a : Int)) = false := by
  have e : (a : Int) <<< i / 2 ^ i = (a : Int) := by
    rw [Int.shiftLeft_eq]
    exact Int.mul_ediv_cancel _ (Int.ne_of_gt (Int.pow_pos (by decide)))
  rw [e]; simp

set_option maxHeartbeats 400000 in
theorem product_any (a b : Nat) (w : World) (hb : b < 18446744073709551616) (hs : ∀ i, b.testBit i = true → a <<< i < 18446744073709551616) (hc : ∀ i, i ≤ 64 → PM.cl a b i < 18446744073709551616) :
    Calls Try.prog 18 #[.int .u64 a, .int .u64 b] w fun e w' => e = .returned (.tuple #[.int .u64 (PM.C a b : Nat), .bool false]) ∧ w' = w := by
  go_enter Try.func18, Try.ntmps18
  go_wp2
  go_loop [6, 7, 8] (fun o l c => ∃ i : Nat, i ≤ 64 ∧ c = .int .i64 i ∧ l = .bool false ∧ o = .int .u64 (PM.cl a b i : Nat)) (fun _ _ c => 64 - (intOf c).toNat)
  case atStart => exact ⟨0, by omega, rfl, rfl, rfl⟩
  case round =>
    obtain ⟨i, hi, rfl, rfl, rfl⟩ := hrel
    by_cases hlt : i < 64
    · have hx := hc i hi
      cases hbit : b.testBit i
      · have t1 : (bits .and .u64 ((b : Int) / 2 ^ i) 1 != 0) = false := by rw [bit_not' b i hb hlt]; exact hbit
        clear hs hc
        go_wp2
        go_round
        case rel => exact ⟨i + 1, by omega, by go_num, rfl, by rw [PM.cl_false hbit]⟩
        case measure => simp [intOf] <;> omega
      · have t1 : (bits .and .u64 ((b : Int) / 2 ^ i) 1 != 0) = true := by rw [bit_not' b i hb hlt]; exact hbit
        have hsi := hs i hbit
        have t2 := wrap_shl a i i rfl hsi
        clear hs hc
        go_wp2
        go_round
        case rel => exact ⟨i + 1, by omega, by go_num, congrArg Value.bool (lost_no a i), ret_word (by rw [PM.cl_true hbit]; exact xor_nat _ _ hx hsi)⟩
        case measure => simp [intOf] <;> omega
    · go_wp2
      go_ret2
      exact ⟨by rw [show i = 64 by omega, PM.cl_eq_C a b 64 hb]; rfl, rfl⟩
set_option maxHeartbeats 400000 in
theorem refDegree_any (p : Nat) (w : World) (hp : p < 18446744073709551616) :
    Calls Try.prog 11 #[.int .u64 p] w fun e w' => e = .returned (.int .i64 ((PM.bl p : Nat) - 1 : Int)) ∧ w' = w := by
  go_enter Try.func11, Try.ntmps11
  go_wp2
  go_loop [3, 4] (fun d c => ∃ i : Nat, i ≤ 64 ∧ c = .int .i64 i ∧ d = .int .i64 ((PM.bl (p % 2 ^ i) : Nat) - 1 : Int)) (fun _ c => 64 - (intOf c).toNat)
  case atStart => exact ⟨0, by omega, rfl, congrArg (Value.int .i64) (by rw [show p % 2 ^ 0 = 0 by omega]; rfl)⟩
  case round =>
    obtain ⟨i, hi, rfl, rfl⟩ := hrel
    by_cases hlt : i < 64
    · cases hbit : p.testBit i
      · have t1 : (bits .and .u64 ((p : Int) / 2 ^ i) 1 != 0) = false := by rw [bit_not' p i hp hlt]; exact hbit
        go_wp2
        go_round
        case rel => exact ⟨i + 1, by omega, by go_num, by rw [PM.bl_mod_false hbit]⟩
        case measure => simp [intOf] <;> omega
      · have t1 : (bits .and .u64 ((p : Int) / 2 ^ i) 1 != 0) = true := by rw [bit_not' p i hp hlt]; exact hbit
        go_wp2
        go_round
        case rel => exact ⟨i + 1, by omega, by go_num, congrArg (Value.int .i64) (by rw [PM.bl_mod_true hbit]; omega)⟩
        case measure => simp [intOf] <;> omega
    · go_wp2
      go_ret
      exact ⟨ret_int (by rw [show i = 64 by omega, Nat.mod_eq_of_lt (show p < 2 ^ 64 from hp)]), rfl⟩
set_option maxHeartbeats 400000 in
theorem refWeight_any (p : Nat) (w : World) (hp : p < 18446744073709551616) :
    Calls Try.prog 13 #[.int .u64 p] w fun e w' => e = .returned (.int .i64 (PM.wt p 64 : Nat)) ∧ w' = w := by
  go_enter Try.func13, Try.ntmps13
  go_wp2
  go_loop [3, 4] (fun d c => ∃ i : Nat, i ≤ 64 ∧ c = .int .i64 i ∧ d = .int .i64 (PM.wt p i : Nat)) (fun _ c => 64 - (intOf c).toNat)
  case atStart => exact ⟨0, by omega, rfl, rfl⟩
  case round =>
    obtain ⟨i, hi, rfl, rfl⟩ := hrel
    have hw := PM.wt_le p i
    by_cases hlt : i < 64
    · obtain ⟨b, hb⟩ : ∃ b, b = (p.testBit i).toNat := ⟨_, rfl⟩
      have hb1 : b ≤ 1 := by rw [hb]; exact Bool.toNat_le _
      have t1 : bits .and .u64 ((p : Int) / 2 ^ i) 1 = (b : Int) := by rw [bit_num' p i hp hlt, hb]
      have hs : Hid (PM.wt p (i + 1) = PM.wt p i + b) := by
        show PM.wt p i + (p / 2 ^ i) % 2 = _
        rw [hb, Nat.toNat_testBit]
      clear hb
      go_wp2
      go_round
      case rel => exact ⟨i + 1, by omega, by go_num, ret_word (by rw [hs.out]; omega)⟩
      case measure => simp [intOf] <;> omega
    · go_wp2
      go_ret
      exact ⟨ret_int (by rw [show i = 64 by omega]), rfl⟩
set_option maxHeartbeats 400000 in
theorem refDivMod_zero (p : Nat) (w : World) :
    Calls Try.prog 17 #[.int .u64 p, .int .u64 0] w fun e w' => e = .returned (.tuple #[.int .u64 0, .int .u64 0, .int .i64 10]) ∧ w' = w := by
  go_enter Try.func17, Try.ntmps17
  go_wp2
  go_ret3
  exact ⟨rfl, rfl⟩
set_option maxHeartbeats 400000 in
theorem refDivMod_any (p q : Nat) (w : World) (hp : p < 18446744073709551616) (hq : q < 18446744073709551616) (h0 : q ≠ 0) :
    Calls Try.prog 17 #[.int .u64 p, .int .u64 q] w fun e w' => e = .returned (.tuple #[.int .u64 (PM.Q q p), .int .u64 (PM.R q q.log2 p), .int .i64 0]) ∧ w' = w := by
  have hqz : ((q : Int) == 0) = false := by simpa using h0
  have hl := PM.log2_lt64 h0 hq
  have hK : Hid (PM.dv q q.log2 (64 - q.log2) 0 p = (PM.Q q p, PM.R q q.log2 p)) := (PM.dv_all h0 hq hp).1
  have hd2 : Hid (PM.bl q = q.log2 + 1) := PM.bl_pos h0
  have hd3 : q.log2 + 1 ≤ PM.bl q ∧ PM.bl q ≤ q.log2 + 1 := by have := hd2.out; omega
  go_enter Try.func17, Try.ntmps17
  go_wp2_with (go_at_call 11; refine (refDegree_any _ _ (by assumption)).mono ?_; rintro e w' ⟨rfl, rfl⟩)
  go_loop [0, 8, 9] (fun r a c => ∃ k x y : Nat, k ≤ 64 - q.log2 ∧ c = .int .i64 ((k : Int) - 1) ∧ a = .int .u64 x ∧ r = .int .u64 y ∧ x < 18446744073709551616 ∧ y < 18446744073709551616 ∧ PM.dv q q.log2 k x y = (PM.Q q p, PM.R q q.log2 p)) (fun _ _ c => (intOf c + 1).toNat)
  case atStart => exact ⟨64 - q.log2, 0, p, by omega, congrArg (Value.int .i64) (by omega), rfl, rfl, by omega, hp, hK.out⟩
  case round =>
    obtain ⟨k, x, y, hk, rfl, rfl, rfl, hx, hy, hdv⟩ := hrel
    have HD : Hid (PM.dv q q.log2 k x y = (PM.Q q p, PM.R q q.log2 p)) := hdv
    clear hdv
    cases k with
    | zero =>
      go_wp2
      go_ret3
      obtain ⟨e1, e2⟩ := Prod.mk.inj HD.out
      exact ⟨by rw [← e1, ← e2]; rfl, rfl⟩
    | succ j =>
      cases hb : y.testBit (q.log2 + j)
      · have t1 : (bits .and .u64 ((y : Int) / 2 ^ (j + (PM.bl q - 1))) 1 != 0) = false := by rw [show j + (PM.bl q - 1) = q.log2 + j by omega, bit_not' y _ hy (by omega)]; exact hb
        go_wp2
        go_round
        case rel => exact ⟨j, x, y, by omega, rfl, rfl, rfl, hx, hy, PM.dv_false HD hb rfl rfl⟩
        case measure => simp [intOf] <;> omega
      · have t1 : (bits .and .u64 ((y : Int) / 2 ^ (j + (PM.bl q - 1))) 1 != 0) = true := by rw [show j + (PM.bl q - 1) = q.log2 + j by omega, bit_not' y _ hy (by omega)]; exact hb
        have hj : j < 64 := by omega
        have hs := shl_lt64 (PM.deg_log2 h0) (j := j) (by omega)
        go_wp2
        go_round
        case rel =>
          exact ⟨j, x ||| 2 ^ j, y ^^^ q <<< j, by omega, rfl,
            ret_word (by rw [wrap_pow _ j rfl hj]; exact or_nat _ _ hx (pow_lt64 hj)),
            ret_word (by rw [wrap_shl q _ j rfl hs]; exact xor_nat _ _ hy hs),
            or_lt64 hx (pow_lt64 hj), xor_lt64 hy hs, PM.dv_true HD hb rfl rfl⟩
        case measure => simp [intOf] <;> omega
set_option maxHeartbeats 400000 in
theorem refGcd_any (k : Nat) : ∀ (p q : Nat) (w : World), PM.bl q ≤ k → p < 18446744073709551616 → q < 18446744073709551616 →
    Calls Try.prog 20 #[.int .u64 p, .int .u64 q] w fun e w' => e = .returned (.int .u64 (PM.G p q : Nat)) ∧ w' = w := by
  induction k with
  | zero =>
    intro p q w hk hp hq
    have : q = 0 := by
      by_cases h : q = 0
      · exact h
      · rw [PM.bl_pos h] at hk; omega
    subst this
    go_enter Try.func20, Try.ntmps20
    go_wp2_with fail
    go_ret
    exact ⟨ret_int (by rw [PM.G_zero]), rfl⟩
  | succ k ih =>
    intro p q w hk hp hq
    by_cases h0 : q = 0
    · subst h0
      go_enter Try.func20, Try.ntmps20
      go_wp2_with fail
      go_ret
      exact ⟨ret_int (by rw [PM.G_zero]), rfl⟩
    · have hqz : ((q : Int) == 0) = false := by simpa using h0
      have h1 := PM.bl_R h0 p
      have h2 := R_lt64 h0 hq p
      have H := fun w => ih q (PM.R q q.log2 p) w (by omega) hq h2
      clear ih
      go_enter Try.func20, Try.ntmps20
      go_wp2_with (first | (go_at_call 17; refine (refDivMod_any p q _ hp hq h0).mono ?_; rintro e w' ⟨rfl, rfl⟩) | (go_at_call 20; refine (H _).mono ?_; rintro e w' ⟨rfl, rfl⟩))
      go_ret
      exact ⟨ret_int (by rw [PM.G_step h0 p]), rfl⟩
theorem bit32 (p i : Nat) (hp : p < 4294967296) : (bits .and .u32 ((p : Int) / 2 ^ i) 1 != 0) = p.testBit i := by
  have e : (p : Int) / 2 ^ i = ((p >>> i : Nat) : Int) := by rw [Nat.shiftRight_eq_div_pow]; simp
  have hl : p >>> i < 4294967296 := by rw [Nat.shiftRight_eq_div_pow]; exact Nat.lt_of_le_of_lt (Nat.div_le_self _ _) hp
  have h := u32_and_nat (p >>> i) 1 hl (by omega)
  rw [nat_mask1, shr_bit] at h
  rw [e]
  have h2 : bits .and .u32 ((p >>> i : Nat) : Int) 1 = ((p.testBit i).toNat : Int) := h
  rw [h2]
  cases p.testBit i <;> rfl
set_option maxHeartbeats 400000 in
theorem refMul_any (p q : Nat) (w : World) (hp : p < 4294967296) (hq : q < 4294967296) :
    Calls Try.prog 15 #[.int .u32 p, .int .u32 q] w fun e w' => e = .returned (.int .u64 (PM.C p q : Nat)) ∧ w' = w := by
  go_enter Try.func15, Try.ntmps15
  go_wp2
  go_loop [5, 6, 7] (fun o c _ => ∃ i : Nat, i ≤ 32 ∧ c = .int .i64 i ∧ o = .int .u64 (PM.cl q p i : Nat)) (fun _ c _ => 32 - (intOf c).toNat)
  case atStart => exact ⟨0, by omega, rfl, rfl⟩
  case round =>
    obtain ⟨i, hi, rfl, rfl⟩ := hrel
    by_cases hlt : i < 32
    · have hx : PM.cl q p i < 18446744073709551616 := Nat.lt_of_lt_of_le (PM.cl_lt (A := 32) hq i) (show 2 ^ (32 + i) ≤ 2 ^ 64 from Nat.pow_le_pow_right (by omega) (by omega))
      cases hbit : p.testBit i
      · have t1 : (bits .and .u32 ((p : Int) / 2 ^ i) 1 != 0) = false := by rw [bit32 p i hp]; exact hbit
        go_wp2
        go_loop [5, 7] (fun o c => ∃ k : Nat, k ≤ 32 ∧ c = .int .i64 k ∧ o = .int .u64 (PM.cl q p i : Nat)) (fun _ c => 32 - (intOf c).toNat)
        case atStart => exact ⟨0, by omega, rfl, rfl⟩
        case round =>
          obtain ⟨k, hk, rfl, rfl⟩ := hrel
          by_cases hlt2 : k < 32
          · go_wp2
            go_round
            case rel => exact ⟨k + 1, by omega, by go_num, rfl⟩
            case measure => simp [intOf] <;> omega
          · go_wp2
            go_round
            case rel => exact ⟨i + 1, by omega, by go_num, by rw [PM.cl_false hbit]⟩
            case measure => simp [intOf] <;> omega
      · have t1 : (bits .and .u32 ((p : Int) / 2 ^ i) 1 != 0) = true := by rw [bit32 p i hp]; exact hbit
        go_wp2
        go_loop [5, 7] (fun o c => ∃ k : Nat, k ≤ 32 ∧ c = .int .i64 k ∧ o = .int .u64 (PM.cl q p i ^^^ (q % 2 ^ k) <<< i : Nat)) (fun _ c => 32 - (intOf c).toNat)
        case atStart => exact ⟨0, by omega, rfl, ret_word (by rw [show q % 2 ^ 0 = 0 by omega]; simp)⟩
        case round =>
          obtain ⟨k, hk, rfl, rfl⟩ := hrel
          by_cases hlt2 : k < 32
          · cases hbit2 : q.testBit k
            · have t2 : (bits .and .u32 ((q : Int) / 2 ^ k) 1 != 0) = false := by rw [bit32 q k hq]; exact hbit2
              go_wp2
              go_round
              case rel => exact ⟨k + 1, by omega, by go_num, by rw [PM.mod_false hbit2]⟩
              case measure => simp [intOf] <;> omega
            · have t2 : (bits .and .u32 ((q : Int) / 2 ^ k) 1 != 0) = true := by rw [bit32 q k hq]; exact hbit2
              have hy : PM.cl q p i ^^^ (q % 2 ^ k) <<< i < 18446744073709551616 := by
                refine xor_lt64 hx ?_
                rw [Nat.shiftLeft_eq]
                exact Nat.lt_of_lt_of_le (Nat.mul_lt_mul'' (show q % 2 ^ k < 2 ^ 32 from Nat.lt_of_le_of_lt (Nat.mod_le _ _) hq) (show 2 ^ i < 2 ^ 32 from Nat.pow_lt_pow_right (by omega) hlt)) (by decide)
              have HM : Hid ((q % 2 ^ (k + 1)) <<< i = (q % 2 ^ k) <<< i ^^^ 2 ^ (i + k)) := PM.shl_mod_true hbit2
              generalize ho : PM.cl q p i ^^^ (q % 2 ^ k) <<< i = o at hy ⊢
              have HO : Hid (PM.cl q p i ^^^ (q % 2 ^ k) <<< i = o) := ho
              clear ho
              go_wp2
              go_round
              case rel => exact ⟨k + 1, by omega, by go_num, ret_word (by rw [HM.out, ← Nat.xor_assoc, HO.out, wrap_pow _ (i + k) rfl (by omega)]; exact xor_nat _ _ hy (pow_lt64 (by omega)))⟩
              case measure => simp [intOf] <;> omega
          · go_wp2
            go_round
            case rel => exact ⟨i + 1, by omega, by go_num, by rw [show k = 32 by omega, Nat.mod_eq_of_lt (show q < 2 ^ 32 from hq), PM.cl_true hbit]⟩
            case measure => simp [intOf] <;> omega
    · go_wp2
      go_ret
      exact ⟨ret_int (by rw [show i = 32 by omega, PM.cl_eq_C q p 32 hp, PM.C_comm]), rfl⟩

end Go.Proofs.Ytndcphlepobdcaa
