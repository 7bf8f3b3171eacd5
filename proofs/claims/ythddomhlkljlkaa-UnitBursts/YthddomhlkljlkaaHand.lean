/- What the helpers of the statements do: a burst, places turned. -/
import Derived.Test.YthddomhlkljlkaaLaw02
import Derived.Deep.DeepCutAuto
import Derived.RegionTactic
namespace Go.Proofs.Ythddomhlkljlkaa
open Go.RowKit

theorem own_form {w : World} {B e n : Nat} {v : Value} {xs : List Value} (h : w.ownsRow B e 1 v n xs) : ∃ a cap, v = .slice a n cap ∧ (0 < n → ∃ g, a = some ⟨g, 0, none⟩ ∧ B ≤ g) := by
  rcases h.2 with ⟨rfl, rfl⟩ | ⟨g, cap, cur, hv, hg, _⟩
  · exact ⟨none, 0, rfl, fun h => by omega⟩
  · exact ⟨_, cap, hv, fun _ => ⟨g, rfl, hg⟩⟩
theorem xor8 (a b : Nat) (ha : a < 256) (hb : b < 256) : bits .xor .u8 (a : Int) (b : Int) = ((a ^^^ b : Nat) : Int) := u8_xor_nat a b ha hb

/-- Bit number k of the bytes turned. -/
def fl (f : Nat → Nat) (k q : Nat) : Nat := if q = k / 8 then f (k / 8) ^^^ 2 ^ (7 - k % 8) else f q
theorem fl_lt {f : Nat → Nat} {n : Nat} (hf : ∀ i, i < n → f i < 256) (k : Nat) (hk : k / 8 < n) : ∀ i, i < n → fl f k i < 256 := by
  intro i hi
  unfold fl
  by_cases h : i = k / 8
  · rw [if_pos h]
    exact Nat.xor_lt_two_pow (n := 8) (hf _ hk) (Nat.pow_lt_pow_right (by omega) (by omega))
  · rw [if_neg h]; exact hf i hi
theorem fl_fb (f : Nat → Nat) (k n : Nat) : PM.fb (fl f k) n = if n = k then !PM.fb f n else PM.fb f n := by
  unfold PM.fb fl
  by_cases h : n / 8 = k / 8
  · rw [if_pos h, Nat.testBit_xor, Nat.testBit_two_pow, h]
    by_cases e : n = k
    · subst e
      rw [if_pos rfl]
      simp
    · rw [if_neg e]
      have : ¬ 7 - k % 8 = 7 - n % 8 := by omega
      simp [this]
  · rw [if_neg h, if_neg (fun e => h (by rw [e]))]
theorem fl_V (f : Nat → Nat) (k n : Nat) (hk : k < n) : PM.V (PM.fb (fl f k)) n = PM.V (PM.fb f) n ^^^ 2 ^ (n - 1 - k) := by
  rw [PM.V_congr _ (fun i => if i = k then !PM.fb f i else PM.fb f i) n (fun i _ => fl_fb f k i)]
  exact PM.V_flip (PM.fb f) n k hk
theorem pow7 (k : Nat) : (128 : Int) / 2 ^ (k % 8) = ((2 ^ (7 - k % 8) : Nat) : Int) := by
  have h : ∀ z : Fin 8, (128 : Int) / 2 ^ z.val = ((2 ^ (7 - z.val) : Nat) : Int) := by decide
  exact h ⟨k % 8, by omega⟩
/-- The burst's first i bits. -/
theorem burst_true {x s i N fr : Nat} (hi : i < s) (hN : fr + s ≤ N) (hb : x.testBit (s - 1 - i) = true) :
    PM.C (x >>> (s - i)) (2 ^ (N - fr - i)) ^^^ 2 ^ (N - 1 - (fr + i)) = PM.C (x >>> (s - (i + 1))) (2 ^ (N - fr - (i + 1))) := by
  rw [show s - (i + 1) = s - 1 - i by omega, PM.shr_true hb (show s - i = s - 1 - i + 1 by omega), show N - fr - i = (N - fr - (i + 1)) + 1 by omega, Nat.pow_succ, Nat.mul_comm (2 ^ _) 2, PM.C_two_right, PM.dbl_add _ 1 (by omega), PM.C_xor_left, PM.C_two_left, PM.C_one_left, show N - 1 - (fr + i) = N - fr - (i + 1) by omega]
theorem burst_false {x s i N fr : Nat} (hi : i < s) (hN : fr + s ≤ N) (hb : x.testBit (s - 1 - i) = false) :
    PM.C (x >>> (s - i)) (2 ^ (N - fr - i)) = PM.C (x >>> (s - (i + 1))) (2 ^ (N - fr - (i + 1))) := by
  rw [show s - (i + 1) = s - 1 - i by omega, PM.shr_false hb (show s - i = s - 1 - i + 1 by omega), show N - fr - i = (N - fr - (i + 1)) + 1 by omega, Nat.pow_succ, Nat.mul_comm (2 ^ _) 2, PM.C_two_right, PM.C_two_left]
theorem and32_one (a : Nat) (h : a < 4294967296) : bits .and .u32 (a : Int) 1 = ((a % 2 : Nat) : Int) := by
  have := u32_and_nat a 1 h (by omega)
  rw [nat_mask1] at this
  exact this
theorem bit32 (x k : Nat) (hx : x < 4294967296) : (bits .and .u32 ((x : Int) / 2 ^ k) 1 != 0) = x.testBit k := by
  have e : (x : Int) / 2 ^ k = ((x >>> k : Nat) : Int) := by rw [Nat.shiftRight_eq_div_pow]; simp
  have hl : x >>> k < 4294967296 := by rw [Nat.shiftRight_eq_div_pow]; exact Nat.lt_of_le_of_lt (Nat.div_le_self _ _) hx
  rw [e, and32_one _ hl, shr_bit]
  cases x.testBit k <;> rfl
set_option maxHeartbeats 1000000 in
theorem burst_no (a0 : Option Addr) (len cap : Nat) (n : Int) (x : Nat) (w : World) (hl : len ≤ 100000) (hx : x < 4294967296) (hno : x = 0 ∨ 8 * len < PM.bl x) :
    Calls Try.prog 23 #[.slice a0 len cap, .int .i64 n, .int .u32 x] w fun e w' => e = .returned (.tuple #[.slice none 0 0, .bool false]) ∧ w' = w := by
  have hbit := fun k => bit32 x k hx
  have hbl := PM.bl_le (n := x) (k := 32) (by omega)
  go_enter Try.func23, Try.ntmps23
  go_wp2_with fail
  go_loop [8, 9] (fun s c => ∃ i : Nat, i ≤ 32 ∧ c = .int .i64 i ∧ s = .int .i64 (PM.bl (x % 2 ^ i) : Nat)) (fun _ c => 32 - (intOf c).toNat)
  case atStart => exact ⟨0, by omega, rfl, by rw [Nat.pow_zero, Nat.mod_one]; rfl⟩
  case round =>
    obtain ⟨i, hi32, rfl, rfl⟩ := hrel
    by_cases hlt : i < 32
    · have t1 := hbit i
      clear hbit
      cases hb : x.testBit i
      · rw [hb] at t1
        go_wp2
        go_round
        case rel => exact ⟨i + 1, by omega, by go_num, by rw [PM.bl_mod_false hb]⟩
        case measure => simp [intOf] <;> omega
      · rw [hb] at t1
        go_wp2
        go_round
        case rel => exact ⟨i + 1, by omega, by go_num, by rw [PM.bl_mod_true hb]; go_num⟩
        case measure => simp [intOf] <;> omega
    · obtain rfl : i = 32 := by omega
      rw [Nat.mod_eq_of_lt (show x < 2 ^ 32 from hx)]
      rcases hno with hx0 | hroom
      · rw [show PM.bl x = 0 by rw [hx0]; rfl]
        clear hbit hx0 hbl
        go_wp2
        go_ret2
        exact ⟨rfl, rfl⟩
      · have hs0 : ((PM.bl x : Int) == 0) = false := by simp; omega
        have hd : decide ((8 : Int) * (len : Int) - (PM.bl x : Int) + 1 < 1) = true := by simp; omega
        clear hbit
        generalize PM.bl x = s at *
        go_wp2
        go_ret2
        exact ⟨rfl, rfl⟩
/-- What a burst leaves: the bytes with the word's bits turned somewhere. -/
def BurstOut (B : Nat) (w' : World) (len x : Nat) (bs : Nat → Nat) (v : Value) : Prop :=
  ∃ f d, w'.ownsRow B 5 1 v len (CB f len) ∧ (∀ i, i < len → f i < 256) ∧ PM.V (PM.fb f) (8 * len) = PM.V (PM.fb bs) (8 * len) ^^^ PM.C x (2 ^ d)
set_option maxRecDepth 100000 in
set_option maxHeartbeats 1000000 in
theorem burst_yes (a0 : Option Addr) (len cap : Nat) (n : Int) (x : Nat) (bs : Nat → Nat) (w : World) (hr : Row8 w a0 len cap bs) (hl : len ≤ 100000) (hx : x < 4294967296) (hx0 : x ≠ 0) (hroom : PM.bl x ≤ 8 * len) :
    Calls Try.prog 23 #[.slice a0 len cap, .int .i64 n, .int .u32 x] w fun e w' => ∃ v, e = .returned (.tuple #[v, .bool true]) ∧ Below w.heap.size w w' ∧ BurstOut w.heap.size w' len x bs v := by
  obtain ⟨i0, hi, hz0, hz1, hz2⟩ := info_parts info_u8
  have hbit := fun k => bit32 x k hx
  have hbl := PM.bl_le (n := x) (k := 32) (by omega)
  have hpos : 0 < PM.bl x := by rw [PM.bl_pos hx0]; omega
  have hbd := build0
  go_enter Try.func23, Try.ntmps23
  go_wp2_with fail
  go_loop [8, 9] (fun s c => ∃ i : Nat, i ≤ 32 ∧ c = .int .i64 i ∧ s = .int .i64 (PM.bl (x % 2 ^ i) : Nat)) (fun _ c => 32 - (intOf c).toNat)
  case atStart => exact ⟨0, by omega, rfl, by rw [Nat.pow_zero, Nat.mod_one]; rfl⟩
  case round =>
    obtain ⟨i, hi32, rfl, rfl⟩ := hrel
    by_cases hlt : i < 32
    · have t1 := hbit i
      clear hbit
      cases hb : x.testBit i
      · rw [hb] at t1
        go_wp2
        go_round
        case rel => exact ⟨i + 1, by omega, by go_num, by rw [PM.bl_mod_false hb]⟩
        case measure => simp [intOf] <;> omega
      · rw [hb] at t1
        go_wp2
        go_round
        case rel => exact ⟨i + 1, by omega, by go_num, by rw [PM.bl_mod_true hb]; go_num⟩
        case measure => simp [intOf] <;> omega
    · obtain rfl : i = 32 := by omega
      rw [Nat.mod_eq_of_lt (show x < 2 ^ 32 from hx)]
      have HX : Hid (x < 2 ^ PM.bl x) := PM.lt_bl x
      have hs0 : ((PM.bl x : Int) == 0) = false := by simp; omega
      have hd : decide ((8 : Int) * (len : Int) - (PM.bl x : Int) + 1 < 1) = false := by simp; omega
      have hrm : wrap64 ((IntKind.u64.wrap n).tmod (8 * (len : Int) - (PM.bl x : Int) + 1)) = ((((n % 18446744073709551616) % (8 * (len : Int) - (PM.bl x : Int) + 1)).toNat : Nat) : Int) := by
        rw [IntKind.wrap_u64, Int.tmod_eq_emod_of_nonneg (by omega)]
        have h1 := Int.emod_nonneg (n % 18446744073709551616) (show (8 * (len : Int) - (PM.bl x : Int) + 1) ≠ 0 by omega)
        have h2 := Int.emod_lt_of_pos (n % 18446744073709551616) (show 0 < 8 * (len : Int) - (PM.bl x : Int) + 1 by omega)
        unfold wrap64
        omega
      have hfr : ((n % 18446744073709551616) % (8 * (len : Int) - (PM.bl x : Int) + 1)).toNat + PM.bl x ≤ 8 * len := by
        have h1 := Int.emod_nonneg (n % 18446744073709551616) (show (8 * (len : Int) - (PM.bl x : Int) + 1) ≠ 0 by omega)
        have h2 := Int.emod_lt_of_pos (n % 18446744073709551616) (show 0 < 8 * (len : Int) - (PM.bl x : Int) + 1 by omega)
        omega
      generalize ((n % 18446744073709551616) % (8 * (len : Int) - (PM.bl x : Int) + 1)).toNat = fr at *
      generalize PM.bl x = s at *
      have hbelA : Below w.heap.size w (w.alloc (.cells #[] 5)) := (Below.refl _ _).alloc (Nat.le_refl _) _
      have R0 := hr.below hbelA
      have O0 : (w.alloc (.cells #[] 5)).ownsRow w.heap.size 5 1 (.slice (some ⟨w.heap.size, 0, none⟩) 0 0) 0 (CB bs 0) := World.ownsRow_made w #[] 0 (Nat.le_refl _) (Nat.zero_le _) rfl
      have hszA := hbelA.size
      go_wp2_with (at_builtin; refine wpList_append_row8 rfl (.tmp 44) (.tmp 45) 27 rfl w.heap.size 5 i0 (.int .u8 0) Try.underlying27 hi hz0 hz1 hz2 rfl _ 0 _ rfl O0 a0 len cap bs rfl R0 (by unfold maxLen; omega) (by omega) hszA ?_)
      intro v2 w2 hown2 hgrow2
      have hbel2 : Below w.heap.size w w2 := hbelA.grown hgrow2 hszA (fun k hk => (O0.lt k hk).1)
      rw [show CB bs 0 = [] from rfl, List.nil_append] at hown2
      have hb0 := hr.byte
      clear hgrow2 O0 R0 hbelA hbd hr hrm
      obtain ⟨ax, cx, rfl, hax⟩ := own_form hown2
      go_wp2_with fail
      go_loopw [13, 14] (fun c _ wr => ∃ i f, i ≤ s ∧ c = .int .i64 ((i : Nat) : Int) ∧ wr.ownsRow w.heap.size 5 1 (.slice ax len cx) len (CB f len) ∧ (∀ i, i < len → f i < 256) ∧ PM.V (PM.fb f) (8 * len) = PM.V (PM.fb bs) (8 * len) ^^^ PM.C (x >>> (s - i)) (2 ^ (8 * len - fr - i)) ∧ Below w.heap.size w wr) (fun c _ _ => s - (intOf c).toNat)
      case atStart => exact ⟨0, bs, by omega, rfl, hown2, hb0, by rw [Nat.sub_zero, Nat.shiftRight_eq_div_pow, Nat.div_eq_of_lt HX.out, PM.C_zero_left, Nat.xor_zero], hbel2⟩
      case round =>
        clear hown2 hbel2 hb0
        obtain ⟨i, f, hi2, rfl, hown, hfb, hfV, hbel⟩ := hrel
        have HV : Hid (PM.V (PM.fb f) (8 * len) = PM.V (PM.fb bs) (8 * len) ^^^ PM.C (x >>> (s - i)) (2 ^ (8 * len - fr - i))) := hfV
        clear hfV
        by_cases hlt2 : i < s
        · have t1 := hbit (s - 1 - i)
          clear hbit
          cases hb : x.testBit (s - 1 - i)
          · rw [hb] at t1
            go_wp2
            go_roundw
            case rel => exact ⟨i + 1, f, by omega, by go_num, hown, hfb, by rw [HV.out, burst_false hlt2 hfr hb], hbel⟩
            case measure => simp [intOf] <;> omega
          · rw [hb] at t1
            obtain ⟨gx, rfl, hgx⟩ := hax (by omega)
            obtain ⟨k, hk⟩ : ∃ k, k = fr + i := ⟨_, rfl⟩
            have hk1 : (fr : Int) + (i : Int) = (k : Int) := by omega
            have hk8 : k / 8 < len := by omega
            obtain ⟨q, hq⟩ : ∃ q, q = k / 8 := ⟨_, rfl⟩
            obtain ⟨m, hm⟩ : ∃ m, m = k % 8 := ⟨_, rfl⟩
            have hq1 : (k : Int) / 8 = (q : Int) := by omega
            have hm1 : (k : Int) % 8 = (m : Int) := by omega
            have hq2 : (k : Int).tdiv 8 = (q : Int) := by rw [Int.tdiv_eq_ediv_of_nonneg (by omega)]; exact hq1
            have hm2 : (k : Int).tmod 8 = (m : Int) := by rw [Int.tmod_eq_emod_of_nonneg (by omega)]; exact hm1
            have hp : (128 : Int) / 2 ^ m = ((2 ^ (7 - m) : Nat) : Int) := by rw [hm]; exact pow7 k
            have hql : q < len := by omega
            have hm8 : m < 8 := by omega
            have hcx := hown.cellAt q (by omega)
            rw [CB_get _ len _ hql] at hcx
            have hfx := hown.frozenAt q
            have hX := xor8 (f q) (2 ^ (7 - m)) (hfb q hql) (show 2 ^ (7 - m) < 2 ^ 8 from Nat.pow_lt_pow_right (by omega) (by omega))
            have hown3 : (wr.drew.setCell ⟨gx, q, none⟩ (.int .u8 ((f q ^^^ 2 ^ (7 - m) : Nat) : Int))).ownsRow w.heap.size 5 1 (.slice (some ⟨gx, 0, none⟩) len cx) len (CB (fl f k) len) := by
              have h := ((show wr.drew.ownsRow w.heap.size 5 1 (.slice (some ⟨gx, 0, none⟩) len cx) len (CB f len) from hown).stored q (.int .u8 ((f q ^^^ 2 ^ (7 - m) : Nat) : Int))).1
              rw [CB_set, CB_congr _ (fl f k) len (fun i _ => by unfold fl; rw [hq, hm])] at h
              exact h
            have hbel3 : Below w.heap.size w (wr.drew.setCell ⟨gx, q, none⟩ (.int .u8 ((f q ^^^ 2 ^ (7 - m) : Nat) : Int))) := hbel.drew.setCell (p := ⟨gx, q, none⟩) hgx _
            have HO : Hid (_) := hown3
            have HB : Hid (_) := hbel3
            have HF : Hid (∀ i, i < len → fl f k i < 256) := fl_lt hfb k hk8
            have HW : Hid (PM.V (PM.fb (fl f k)) (8 * len) = PM.V (PM.fb bs) (8 * len) ^^^ PM.C (x >>> (s - (i + 1))) (2 ^ (8 * len - fr - (i + 1)))) := by
              show _ = _
              rw [fl_V f k (8 * len) (by omega), HV.out, hk, Nat.xor_assoc, burst_true hlt2 hfr hb]
            have hkl : k < 800000 := by omega
            clear hk hq hm hown hbel hown3 hbel3 hax HV hfb
            generalize f q ^^^ 2 ^ (7 - m) = y at *
            generalize 2 ^ (7 - m) = z at *
            go_wp2_with fail
            go_region
            all_goals (go_wp2_with fail; go_roundw)
            case rel => exact ⟨i + 1, fl f k, by omega, by go_num, HO.out, HF.out, HW.out, HB.out⟩
            case measure => simp [intOf] <;> omega
        · obtain rfl : i = s := by omega
          clear hbit hax
          go_wp2
          go_ret2
          exact ⟨_, rfl, hbel, f, 8 * len - fr - i, hown, hfb, by rw [HV.out, Nat.sub_self, Nat.shiftRight_zero]⟩

end Go.Proofs.Ythddomhlkljlkaa
