/- Part 13 of the texts on which the proofs of layer 13 rest: contracts of Go functions. -/
import Derived.Deep.DeepCutAuto
import Derived.RegionTactic
import Derived.Test.YtffehehghpafdaaGreatPkA06
import Derived.Test.YtffehehghpafdaaGreatPkA08
import Derived.Test.YtffehehghpafdaaGreatPkA09
import Derived.Test.YtffehehghpafdaaGreatPkA11
namespace Go.Proofs.YtffehehghpafdaaGreat
set_option maxRecDepth 100000
open Go.RowKit
theorem own_form {w : World} {B e n : Nat} {v : Value} {xs : List Value} (h : w.ownsRow B e 1 v n xs) : ∃ a cap, v = .slice a n cap ∧ (0 < n → ∃ g, a = some ⟨g, 0, none⟩ ∧ B ≤ g) := by
  rcases h.2 with ⟨rfl, rfl⟩ | ⟨g, cap, cur, hv, hg, _⟩
  · exact ⟨none, 0, rfl, fun h => by omega⟩
  · exact ⟨_, cap, hv, fun _ => ⟨g, rfl, hg⟩⟩
theorem xor8 (a b : Nat) (ha : a < 256) (hb : b < 256) : bits .xor .u8 (a : Int) (b : Int) = ((a ^^^ b : Nat) : Int) := u8_xor_nat a b ha hb
def fl (f : Nat → Nat) (k q : Nat) : Nat := if q = k / 8 then f (k / 8) ^^^ 2 ^ (7 - k % 8) else f q
theorem fl_lt {f : Nat → Nat} {n : Nat} (hf : ∀ i, i < n → f i < 256) (k : Nat) (hk : k / 8 < n) : ∀ i, i < n → fl f k i < 256 := by
  intro i hi
  unfold fl
  by_cases h : i = k / 8
  · rw [if_pos h]
    exact Nat.xor_lt_two_pow (n := 8) (hf _ hk) (Nat.pow_lt_pow_right (by omega) (by omega))
  · rw [if_neg h]; exact hf i hi
theorem fl_fb (f : Nat → Nat) (k n : Nat) : PM.fb (fl f k) n = if n = k then !PM.fb f n else PM.fb f n := by
  unfold PM.fb fl
  by_cases h : n / 8 = k / 8
  · rw [if_pos h, Nat.testBit_xor, Nat.testBit_two_pow, h]
    by_cases e : n = k
    · subst e
      rw [if_pos rfl]
      simp
    · rw [if_neg e]
      have : ¬ 7 - k % 8 = 7 - n % 8 := by omega
      simp [this]
  · rw [if_neg h, if_neg (fun e => h (by rw [e]))]
theorem fl_V (f : Nat → Nat) (k n : Nat) (hk : k < n) : PM.V (PM.fb (fl f k)) n = PM.V (PM.fb f) n ^^^ 2 ^ (n - 1 - k) := by
  rw [PM.V_congr _ (fun i => if i = k then !PM.fb f i else PM.fb f i) n (fun i _ => fl_fb f k i)]
  exact PM.V_flip (PM.fb f) n k hk
theorem pow7 (k : Nat) : (128 : Int) / 2 ^ (k % 8) = ((2 ^ (7 - k % 8) : Nat) : Int) := by
  have h : ∀ z : Fin 8, (128 : Int) / 2 ^ z.val = ((2 ^ (7 - z.val) : Nat) : Int) := by decide
  exact h ⟨k % 8, by omega⟩
theorem burst_true {x s i N fr : Nat} (hi : i < s) (hN : fr + s ≤ N) (hb : x.testBit (s - 1 - i) = true) :
    PM.C (x >>> (s - i)) (2 ^ (N - fr - i)) ^^^ 2 ^ (N - 1 - (fr + i)) = PM.C (x >>> (s - (i + 1))) (2 ^ (N - fr - (i + 1))) := by
  rw [show s - (i + 1) = s - 1 - i by omega, PM.shr_true hb (show s - i = s - 1 - i + 1 by omega), show N - fr - i = (N - fr - (i + 1)) + 1 by omega, Nat.pow_succ, Nat.mul_comm (2 ^ _) 2, PM.C_two_right, PM.dbl_add _ 1 (by omega), PM.C_xor_left, PM.C_two_left, PM.C_one_left, show N - 1 - (fr + i) = N - fr - (i + 1) by omega]
theorem burst_false {x s i N fr : Nat} (hi : i < s) (hN : fr + s ≤ N) (hb : x.testBit (s - 1 - i) = false) :
    PM.C (x >>> (s - i)) (2 ^ (N - fr - i)) = PM.C (x >>> (s - (i + 1))) (2 ^ (N - fr - (i + 1))) := by
  rw [show s - (i + 1) = s - 1 - i by omega, PM.shr_false hb (show s - i = s - 1 - i + 1 by omega), show N - fr - i = (N - fr - (i + 1)) + 1 by omega, Nat.pow_succ, Nat.mul_comm (2 ^ _) 2, PM.C_two_right, PM.C_two_left]
theorem and32_one (a : Nat) (h : a < 4294967296) : bits .and .u32 (a : Int) 1 = ((a % 2 : Nat) : Int) := by
  have := u32_and_nat a 1 h (by omega)
  rw [nat_mask1] at this
  exact this
theorem bit32 (x k : Nat) (hx : x < 4294967296) : (bits .and .u32 ((x : Int) / 2 ^ k) 1 != 0) = x.testBit k := by
  have e : (x : Int) / 2 ^ k = ((x >>> k : Nat) : Int) := by rw [Nat.shiftRight_eq_div_pow]; simp
  have hl : x >>> k < 4294967296 := by rw [Nat.shiftRight_eq_div_pow]; exact Nat.lt_of_le_of_lt (Nat.div_le_self _ _) hx
  rw [e, and32_one _ hl, shr_bit]
  cases x.testBit k <;> rfl
set_option maxHeartbeats 1000000 in
theorem burst_no (a0 : Option Addr) (len cap : Nat) (n : Int) (x : Nat) (w : World) (hl : len ≤ 100000) (hx : x < 4294967296) (hno : x = 0 ∨ 8 * len < PM.bl x) :
    Calls Tryz.prog 54 #[.slice a0 len cap, .int .i64 n, .int .u32 x] w fun e w' => e = .returned (.tuple #[.slice none 0 0, .bool false]) ∧ w' = w := by
  have hbit := fun k => bit32 x k hx
  have hbl := PM.bl_le (n := x) (k := 32) (by omega)
  go_enter Tryz.func54, Tryz.ntmps54
  go_wp2_with fail
  go_loop [8, 9] (fun s c => ∃ i : Nat, i ≤ 32 ∧ c = .int .i64 i ∧ s = .int .i64 (PM.bl (x % 2 ^ i) : Nat)) (fun _ c => 32 - (intOf c).toNat)
  case atStart => exact ⟨0, by omega, rfl, by rw [Nat.pow_zero, Nat.mod_one]; rfl⟩
  case round =>
    obtain ⟨i, hi32, rfl, rfl⟩ := hrel
    by_cases hlt : i < 32
    · have t1 := hbit i
      clear hbit
      cases hb : x.testBit i
      · rw [hb] at t1
        go_wp2
        go_round
        case rel => exact ⟨i + 1, by omega, by go_num, by rw [PM.bl_mod_false hb]⟩
        case measure => simp [intOf] <;> omega
      · rw [hb] at t1
        go_wp2
        go_round
        case rel => exact ⟨i + 1, by omega, by go_num, by rw [PM.bl_mod_true hb]; go_num⟩
        case measure => simp [intOf] <;> omega
    · obtain rfl : i = 32 := by omega
      rw [Nat.mod_eq_of_lt (show x < 2 ^ 32 from hx)]
      rcases hno with hx0 | hroom
      · rw [show PM.bl x = 0 by rw [hx0]; rfl]
        clear hbit hx0 hbl
        go_wp2
        go_ret2
        exact ⟨rfl, rfl⟩
      · have hs0 : ((PM.bl x : Int) == 0) = false := by simp; omega
        have hd : decide ((8 : Int) * (len : Int) - (PM.bl x : Int) + 1 < 1) = true := by simp; omega
        clear hbit
        generalize PM.bl x = s at *
        go_wp2
        go_ret2
        exact ⟨rfl, rfl⟩
def BurstOut (B : Nat) (w' : World) (len x : Nat) (bs : Nat → Nat) (v : Value) : Prop :=
  ∃ f d, w'.ownsRow B 5 1 v len (CB f len) ∧ (∀ i, i < len → f i < 256) ∧ PM.V (PM.fb f) (8 * len) = PM.V (PM.fb bs) (8 * len) ^^^ PM.C x (2 ^ d)
set_option maxRecDepth 100000 in
set_option maxHeartbeats 1000000 in
theorem burst_yes (a0 : Option Addr) (len cap : Nat) (n : Int) (x : Nat) (bs : Nat → Nat) (w : World) (hr : Row8 w a0 len cap bs) (hl : len ≤ 100000) (hx : x < 4294967296) (hx0 : x ≠ 0) (hroom : PM.bl x ≤ 8 * len) :
    Calls Tryz.prog 54 #[.slice a0 len cap, .int .i64 n, .int .u32 x] w fun e w' => ∃ v, e = .returned (.tuple #[v, .bool true]) ∧ Below w.heap.size w w' ∧ BurstOut w.heap.size w' len x bs v := by
  obtain ⟨i0, hi, hz0, hz1, hz2⟩ := info_parts info_u8
  have hbit := fun k => bit32 x k hx
  have hbl := PM.bl_le (n := x) (k := 32) (by omega)
  have hpos : 0 < PM.bl x := by rw [PM.bl_pos hx0]; omega
  have hbd := build0
  go_enter Tryz.func54, Tryz.ntmps54
  go_wp2_with fail
  go_loop [8, 9] (fun s c => ∃ i : Nat, i ≤ 32 ∧ c = .int .i64 i ∧ s = .int .i64 (PM.bl (x % 2 ^ i) : Nat)) (fun _ c => 32 - (intOf c).toNat)
  case atStart => exact ⟨0, by omega, rfl, by rw [Nat.pow_zero, Nat.mod_one]; rfl⟩
  case round =>
    obtain ⟨i, hi32, rfl, rfl⟩ := hrel
    by_cases hlt : i < 32
    · have t1 := hbit i
      clear hbit
      cases hb : x.testBit i
      · rw [hb] at t1
        go_wp2
        go_round
        case rel => exact ⟨i + 1, by omega, by go_num, by rw [PM.bl_mod_false hb]⟩
        case measure => simp [intOf] <;> omega
      · rw [hb] at t1
        go_wp2
        go_round
        case rel => exact ⟨i + 1, by omega, by go_num, by rw [PM.bl_mod_true hb]; go_num⟩
        case measure => simp [intOf] <;> omega
    · obtain rfl : i = 32 := by omega
      rw [Nat.mod_eq_of_lt (show x < 2 ^ 32 from hx)]
      have HX : Hid (x < 2 ^ PM.bl x) := PM.lt_bl x
      have hs0 : ((PM.bl x : Int) == 0) = false := by simp; omega
      have hd : decide ((8 : Int) * (len : Int) - (PM.bl x : Int) + 1 < 1) = false := by simp; omega
      have hrm : wrap64 ((IntKind.u64.wrap n).tmod (8 * (len : Int) - (PM.bl x : Int) + 1)) = ((((n % 18446744073709551616) % (8 * (len : Int) - (PM.bl x : Int) + 1)).toNat : Nat) : Int) := by
        rw [IntKind.wrap_u64, Int.tmod_eq_emod_of_nonneg (by omega)]
        have h1 := Int.emod_nonneg (n % 18446744073709551616) (show (8 * (len : Int) - (PM.bl x : Int) + 1) ≠ 0 by omega)
        have h2 := Int.emod_lt_of_pos (n % 18446744073709551616) (show 0 < 8 * (len : Int) - (PM.bl x : Int) + 1 by omega)
        unfold wrap64
        omega
      have hfr : ((n % 18446744073709551616) % (8 * (len : Int) - (PM.bl x : Int) + 1)).toNat + PM.bl x ≤ 8 * len := by
        have h1 := Int.emod_nonneg (n % 18446744073709551616) (show (8 * (len : Int) - (PM.bl x : Int) + 1) ≠ 0 by omega)
        have h2 := Int.emod_lt_of_pos (n % 18446744073709551616) (show 0 < 8 * (len : Int) - (PM.bl x : Int) + 1 by omega)
        omega
      generalize ((n % 18446744073709551616) % (8 * (len : Int) - (PM.bl x : Int) + 1)).toNat = fr at *
      generalize PM.bl x = s at *
      have hbelA : Below w.heap.size w (w.alloc (.cells #[] 5)) := (Below.refl _ _).alloc (Nat.le_refl _) _
      have R0 := hr.below hbelA
      have O0 : (w.alloc (.cells #[] 5)).ownsRow w.heap.size 5 1 (.slice (some ⟨w.heap.size, 0, none⟩) 0 0) 0 (CB bs 0) := World.ownsRow_made w #[] 0 (Nat.le_refl _) (Nat.zero_le _) rfl
      have hszA := hbelA.size
      go_wp2_with (at_builtin; refine wpList_append_row8 rfl (.tmp 44) (.tmp 45) 29 rfl w.heap.size 5 i0 (.int .u8 0) Tryz.underlying29 hi hz0 hz1 hz2 rfl _ 0 _ rfl O0 a0 len cap bs rfl R0 (by unfold maxLen; omega) (by omega) hszA ?_)
      intro v2 w2 hown2 hgrow2
      have hbel2 : Below w.heap.size w w2 := hbelA.grown hgrow2 hszA (fun k hk => (O0.lt k hk).1)
      rw [show CB bs 0 = [] from rfl, List.nil_append] at hown2
      have hb0 := hr.byte
      clear hgrow2 O0 R0 hbelA hbd hr hrm
      obtain ⟨ax, cx, rfl, hax⟩ := own_form hown2
      go_wp2_with fail
      go_loopw [13, 14] (fun c _ wr => ∃ i f, i ≤ s ∧ c = .int .i64 ((i : Nat) : Int) ∧ wr.ownsRow w.heap.size 5 1 (.slice ax len cx) len (CB f len) ∧ (∀ i, i < len → f i < 256) ∧ PM.V (PM.fb f) (8 * len) = PM.V (PM.fb bs) (8 * len) ^^^ PM.C (x >>> (s - i)) (2 ^ (8 * len - fr - i)) ∧ Below w.heap.size w wr) (fun c _ _ => s - (intOf c).toNat)
      case atStart => exact ⟨0, bs, by omega, rfl, hown2, hb0, by rw [Nat.sub_zero, Nat.shiftRight_eq_div_pow, Nat.div_eq_of_lt HX.out, PM.C_zero_left, Nat.xor_zero], hbel2⟩
      case round =>
        clear hown2 hbel2 hb0
        obtain ⟨i, f, hi2, rfl, hown, hfb, hfV, hbel⟩ := hrel
        have HV : Hid (PM.V (PM.fb f) (8 * len) = PM.V (PM.fb bs) (8 * len) ^^^ PM.C (x >>> (s - i)) (2 ^ (8 * len - fr - i))) := hfV
        clear hfV
        by_cases hlt2 : i < s
        · have t1 := hbit (s - 1 - i)
          clear hbit
          cases hb : x.testBit (s - 1 - i)
          · rw [hb] at t1
            go_wp2
            go_roundw
            case rel => exact ⟨i + 1, f, by omega, by go_num, hown, hfb, by rw [HV.out, burst_false hlt2 hfr hb], hbel⟩
            case measure => simp [intOf] <;> omega
          · rw [hb] at t1
            obtain ⟨gx, rfl, hgx⟩ := hax (by omega)
            obtain ⟨k, hk⟩ : ∃ k, k = fr + i := ⟨_, rfl⟩
            have hk1 : (fr : Int) + (i : Int) = (k : Int) := by omega
            have hk8 : k / 8 < len := by omega
            obtain ⟨q, hq⟩ : ∃ q, q = k / 8 := ⟨_, rfl⟩
            obtain ⟨m, hm⟩ : ∃ m, m = k % 8 := ⟨_, rfl⟩
            have hq1 : (k : Int) / 8 = (q : Int) := by omega
            have hm1 : (k : Int) % 8 = (m : Int) := by omega
            have hq2 : (k : Int).tdiv 8 = (q : Int) := by rw [Int.tdiv_eq_ediv_of_nonneg (by omega)]; exact hq1
            have hm2 : (k : Int).tmod 8 = (m : Int) := by rw [Int.tmod_eq_emod_of_nonneg (by omega)]; exact hm1
            have hp : (128 : Int) / 2 ^ m = ((2 ^ (7 - m) : Nat) : Int) := by rw [hm]; exact pow7 k
            have hql : q < len := by omega
            have hm8 : m < 8 := by omega
            have hcx := hown.cellAt q (by omega)
            rw [CB_get _ len _ hql] at hcx
            have hfx := hown.frozenAt q
            have hX := xor8 (f q) (2 ^ (7 - m)) (hfb q hql) (show 2 ^ (7 - m) < 2 ^ 8 from Nat.pow_lt_pow_right (by omega) (by omega))
            have hown3 : (wr.drew.setCell ⟨gx, q, none⟩ (.int .u8 ((f q ^^^ 2 ^ (7 - m) : Nat) : Int))).ownsRow w.heap.size 5 1 (.slice (some ⟨gx, 0, none⟩) len cx) len (CB (fl f k) len) := by
              have h := ((show wr.drew.ownsRow w.heap.size 5 1 (.slice (some ⟨gx, 0, none⟩) len cx) len (CB f len) from hown).stored q (.int .u8 ((f q ^^^ 2 ^ (7 - m) : Nat) : Int))).1
              rw [CB_set, CB_congr _ (fl f k) len (fun i _ => by unfold fl; rw [hq, hm])] at h
              exact h
            have hbel3 : Below w.heap.size w (wr.drew.setCell ⟨gx, q, none⟩ (.int .u8 ((f q ^^^ 2 ^ (7 - m) : Nat) : Int))) := hbel.drew.setCell (p := ⟨gx, q, none⟩) hgx _
            have HO : Hid (_) := hown3
            have HB : Hid (_) := hbel3
            have HF : Hid (∀ i, i < len → fl f k i < 256) := fl_lt hfb k hk8
            have HW : Hid (PM.V (PM.fb (fl f k)) (8 * len) = PM.V (PM.fb bs) (8 * len) ^^^ PM.C (x >>> (s - (i + 1))) (2 ^ (8 * len - fr - (i + 1)))) := by
              show _ = _
              rw [fl_V f k (8 * len) (by omega), HV.out, hk, Nat.xor_assoc, burst_true hlt2 hfr hb]
            have hkl : k < 800000 := by omega
            clear hk hq hm hown hbel hown3 hbel3 hax HV hfb
            generalize f q ^^^ 2 ^ (7 - m) = y at *
            generalize 2 ^ (7 - m) = z at *
            go_wp2_with fail
            go_region
            all_goals (go_wp2_with fail; go_roundw)
            case rel => exact ⟨i + 1, fl f k, by omega, by go_num, HO.out, HF.out, HW.out, HB.out⟩
            case measure => simp [intOf] <;> omega
        · obtain rfl : i = s := by omega
          clear hbit hax
          go_wp2
          go_ret2
          exact ⟨_, rfl, hbel, f, 8 * len - fr - i, hown, hfb, by rw [HV.out, Nat.sub_self, Nat.shiftRight_zero]⟩
end Go.Proofs.YtffehehghpafdaaGreat
namespace Go.Proofs.YtffehehghpafdaaGreat
set_option maxRecDepth 100000
open Go.RowKit
theorem Row8.off0 {l : List Nat} {w w' : World} {a : Option Addr} {len cap : Nat} {bs : Nat → Nat} (h : Row8 w a len cap bs) (q : Off l w w') (hl : ∀ x, a = some x → 0 < len → x.block ∉ l) : Row8 w' a len cap bs := by
  by_cases h0 : 0 < len
  · exact h.off q (fun x hx => hl x hx h0)
  · exact ⟨h.byte, h.nil, fun x hx i hi => absurd hi (by omega), h.le⟩
theorem Off.set {l : List Nat} {w w' : World} (h : Off l w w') {b o : Nat} {v : Value} (hb : b ∈ l) : Off l w (w'.setCell ⟨b, o, none⟩ v) :=
  h.trans ((Off.setCell b o w' v).more (fun k hk => by simp at hk; rw [hk]; exact hb))
theorem row8_of4 {w : World} {g b0 b1 b2 b3 : Nat} {bs : Nat → Nat} (hb : ∀ i, i < 4 → bs i < 256) (e0 : bs 0 = b0) (e1 : bs 1 = b1) (e2 : bs 2 = b2) (e3 : bs 3 = b3) (h0 : w.cell? ⟨g, 0, none⟩ = some (.int .u8 (b0 : Nat))) (h1 : w.cell? ⟨g, 1, none⟩ = some (.int .u8 (b1 : Nat))) (h2 : w.cell? ⟨g, 2, none⟩ = some (.int .u8 (b2 : Nat))) (h3 : w.cell? ⟨g, 3, none⟩ = some (.int .u8 (b3 : Nat))) :
    Row8 w (some ⟨g, 0, none⟩) 4 4 bs := by
  subst e0 e1 e2 e3
  refine ⟨hb, (fun h => by cases h), fun x hx i hi => ?_, Nat.le_refl _⟩
  cases hx
  have c : i = 0 ∨ i = 1 ∨ i = 2 ∨ i = 3 := by omega
  rcases c with rfl | rfl | rfl | rfl
  · exact h0
  · exact h1
  · exact h2
  · exact h3
set_option maxRecDepth 100000 in
set_option maxHeartbeats 1000000 in
theorem rsign_own (P : Pm) (hP : Pok P) (w : World) :
    Calls Tryz.prog 52 #[.agg #[.int .u32 (P.c : Nat), .int .i64 (P.o : Nat), .int .i64 (P.i : Nat), .int .i64 (P.t : Nat), .int .u32 (P.n : Nat)]] w fun e w' => ∃ g, e = .returned (.slice (some ⟨g, 0, none⟩) 4 4) ∧
      Hid (w'.heap[g]? = some (.cells #[.int .u8 (dsg P 0 : Nat), .int .u8 (dsg P 1 : Nat), .int .u8 (dsg P 2 : Nat), .int .u8 (dsg P 3 : Nat)] 5 (0, 0)) ∧ w.heap.size ≤ g ∧ Below w.heap.size w w') := by
  unfold dsg
  have hE := hP.ok
  have hc := hP.c
  have hn := hP.n
  generalize P.c = c at *
  generalize P.o = O at *
  generalize P.i = I at *
  generalize P.t = T at *
  generalize P.n = n at *
  have hb : Below w.heap.size w (w.alloc (.cells #[.int .u32 c, .int .i64 O, .int .i64 I, .int .i64 T, .int .u32 n] 49)) := (Below.refl _ _).alloc (Nat.le_refl _) _
  have hF := rencode_good c O I T n (w.alloc (.cells #[.int .u32 c, .int .i64 O, .int .i64 I, .int .i64 T, .int .u32 n] 49)) hc hn hE
  obtain ⟨_, hO, hI, _, _⟩ := hE
  have hby := pe_lt (c := c) (o := O) (i := I) (t := T) (n := n) (by omega) (by omega)
  have hk := PM.K_lt (pe c O I T n) 14
  have hB0 := fun a cap w1 (R1 : Row8 w1 a 14 cap (pe c O I T n)) => refSum_row a 14 cap (pe c O I T n) w1 R1 (by omega)
  obtain ⟨k, hkd⟩ : ∃ k, k = PM.K (pe c O I T n) 14 := ⟨_, rfl⟩
  rw [← hkd] at hk hB0 ⊢
  clear hO hI hkd hP
  go_enter Tryz.func52, Tryz.ntmps52
  go_wp2_with fail
  refine hF.mono ?_
  rintro e w1 ⟨a, cap, rfl, H1⟩
  obtain ⟨O1, hb1⟩ := H1.out
  have hb2 := below_all hb hb.size hb1
  obtain ⟨a1, c1, e1, R1⟩ := own_row8 O1 (fun k _ => hby k)
  simp only [Value.slice.injEq, true_and] at e1
  obtain ⟨rfl, rfl⟩ := e1
  have hB := hB0 _ _ w1 R1
  clear hb hF hb1 H1 O1 R1 hby hB0
  go_wp2_with fail
  refine hB.mono ?_
  rintro e w2 ⟨rfl, hb3'⟩
  have hb3 := below_all hb2 hb2.size hb3'
  clear hB hb3' hb2
  go_wp2_with fail
  refine (refWord_any k _ hk).mono ?_
  rintro e w4 ⟨rfl, rfl⟩
  have HB : Hid (_) := And.intro (heap_alloc_new w2 (.cells #[.int .u8 ((k : Int) / 16777216), .int .u8 ((k : Int) / 65536 % 256), .int .u8 ((k : Int) / 256 % 256), .int .u8 ((k : Int) % 256)] 5)) (And.intro hb3.size (hb3.alloc hb3.size (.cells #[.int .u8 ((k : Int) / 16777216), .int .u8 ((k : Int) / 65536 % 256), .int .u8 ((k : Int) / 256 % 256), .int .u8 ((k : Int) % 256)] 5)))
  have HK : Hid (_) := hk
  clear hb3 hk
  go_wp2_with fail
  go_ret
  have hk := HK.out
  have e0 : (k : Int) / 16777216 = ((PM.w4 k 0 : Nat) : Int) := by show _ = ((k / 16777216 % 256 : Nat) : Int); omega
  have e1 : (k : Int) / 65536 % 256 = ((PM.w4 k 1 : Nat) : Int) := by show _ = ((k / 65536 % 256 : Nat) : Int); omega
  have e2 : (k : Int) / 256 % 256 = ((PM.w4 k 2 : Nat) : Int) := by show _ = ((k / 256 % 256 : Nat) : Int); omega
  have e3 : (k : Int) % 256 = ((PM.w4 k 3 : Nat) : Int) := by show _ = ((k % 256 : Nat) : Int); omega
  have h := HB.out
  rw [← e0, ← e1, ← e2, ← e3]
  exact ⟨_, rfl, h⟩
def osig (P : Pm) (odd : Bool) : Nat → Nat := if odd = true then (fun i => if i = 0 then dsg P 0 ^^^ 1 else dsg P i) else dsg P
def oses (s : Sd) (odd : Bool) : Nat := if odd = true then (s.ss + 1) % 4294967296 else s.ss
def onum (s : Sd) (N : Int) : Nat := (s.nm + (N % 4294967296).toNat) % 4294967296
def Fo (P : Pm) (s : Sd) (k N fl : Int) (odd : Bool) (len : Nat) (bs : Nat → Nat) (x : Nat) (f : Fm) : Prop :=
  (k = 1 → f = encI 1 P.c 0 0 0 4 (osig P odd)) ∧ (k = 2 → odd = false → f = encI 2 P.c s.ss 0 0 4 (dsg P)) ∧ (k = 3 → f = encI 3 P.c (oses s odd) 0 0 0 (fun _ => 0)) ∧
  (k = 4 → f = encI 4 P.c (oses s odd) (onum s N) fl len bs) ∧ (k = 5 → f = encI 5 P.c (oses s odd) P.n 0 0 (fun _ => 0)) ∧
  (k = 2 → ∃ so sg, f = encI 2 P.c so 0 0 4 sg) ∧ (k = 6 → f = (len, bs)) ∧ (k = 7 → (x ≠ 0 ∧ PM.bl x ≤ 8 * (encI 4 P.c (oses s odd) (onum s N) fl len bs).1) → DE f.2 f.1 = 42) ∧
  (k = 7 → ¬ (x ≠ 0 ∧ PM.bl x ≤ 8 * (encI 4 P.c (oses s odd) (onum s N) fl len bs).1) → f = encI 4 P.c (oses s odd) (onum s N) fl len bs)
theorem osig_f (P : Pm) : osig P false = dsg P := by unfold osig; rw [if_neg (by simp)]
theorem osig_false (P : Pm) (i : Nat) : osig P false i = dsg P i := by unfold osig; rw [if_neg (by simp)]
theorem osig_zero (P : Pm) {x0 : Nat} (h : dsg P 0 ^^^ 1 = x0) : osig P true 0 = x0 := by unfold osig; rw [if_pos rfl, if_pos rfl, h]
theorem osig_succ (P : Pm) (i : Nat) (h : i ≠ 0) : osig P true i = dsg P i := by unfold osig; rw [if_pos rfl, if_neg h]
theorem xor1 (x : Nat) (h : x < 256) : bits .xor .u8 (x : Int) 1 = ((x ^^^ 1 : Nat) : Int) := u8_xor_nat x 1 h (by omega)
theorem so_facts (ss : Nat) : ∃ so : Nat, (ss + 1) % 4294967296 = so ∧ IntKind.u32.wrap ((ss : Int) + 1) = (so : Int) ∧ ((ss : Int) + 1) % 4294967296 = (so : Int) :=
  ⟨_, rfl, by rw [IntKind.wrap_u32]; omega, by omega⟩
theorem x0_facts (P : Pm) : ∃ x0 : Nat, dsg P 0 ^^^ 1 = x0 ∧ bits .xor .u8 (dsg P 0 : Int) 1 = (x0 : Int) := ⟨_, rfl, xor1 _ (dsg_byte P 0 (by omega))⟩
theorem nu_facts (s : Sd) (N : Int) : ∃ nN nu : Nat, onum s N = nu ∧ nu < 4294967296 ∧ IntKind.u32.wrap N = (nN : Int) ∧ N % 4294967296 = (nN : Int) ∧ IntKind.u32.wrap ((s.nm : Int) + (nN : Int)) = (nu : Int) ∧ ((s.nm : Int) + (nN : Int)) % 4294967296 = (nu : Int) := by
  refine ⟨(N % 4294967296).toNat, onum s N, rfl, by unfold onum; omega, by rw [IntKind.wrap_u32]; omega, by omega, ?_, ?_⟩
  · rw [IntKind.wrap_u32]; unfold onum; omega
  · unfold onum; omega
theorem oses_false (s : Sd) : oses s false = s.ss := by unfold oses; rw [if_neg (by simp)]
theorem oses_lt {s : Sd} (h : s.ss < 4294967296) (odd : Bool) : oses s odd < 4294967296 := by
  unfold oses
  split
  · omega
  · exact h
theorem onum_lt (s : Sd) (N : Int) : onum s N < 4294967296 := by unfold onum; omega
theorem encI_byte (k c s n : Nat) (f : Int) (len : Nat) (bs : Nat → Nat) (hb : ∀ i, i < len → bs i < 256) : ∀ i, i < (encI k c s n f len bs).1 → (encI k c s n f len bs).2 i < 256 := by
  unfold encI
  by_cases h : LW k c s n f len len = 0
  · have hf := (LW_zero h).2.2.2.2
    obtain ⟨F, rfl⟩ : ∃ F : Nat, f = (F : Int) := ⟨f.toNat, by omega⟩
    exact encF_byte k c s n F len bs hb
  · rw [if_neg h]; intro i hi; exact absurd hi (Nat.not_lt_zero i)
theorem encI_len (k c s n : Nat) (f : Int) (len : Nat) (bs : Nat → Nat) : (encI k c s n f len bs).1 ≤ 27 := by
  unfold encI
  by_cases h : LW k c s n f len len = 0
  · rw [if_pos h]
    have := (LW_zero h).2.2.2.1
    show 15 + len + 4 ≤ 27
    omega
  · rw [if_neg h]; show 0 ≤ 27; omega
theorem osig_byte (P : Pm) (odd : Bool) : ∀ i, i < 4 → osig P odd i < 256 := by
  intro i hi
  have h := dsg_byte P
  unfold osig
  cases odd
  · exact h i hi
  · show (if i = 0 then dsg P 0 ^^^ 1 else dsg P i) < 256
    split
    · exact Nat.xor_lt_two_pow (n := 8) (h 0 (by omega)) (by omega)
    · exact h i hi
theorem spoilt_DE {k c s n : Nat} {f : Int} {len : Nat} {bs f7 : Nat → Nat} {x d : Nat} (hx : x < 4294967296) (h0 : x ≠ 0) (hroom : PM.bl x ≤ 8 * (encI k c s n f len bs).1) (hV : PM.V (PM.fb f7) (8 * (encI k c s n f len bs).1) = PM.V (PM.fb (encI k c s n f len bs).2) (8 * (encI k c s n f len bs).1) ^^^ PM.C x (2 ^ d)) :
    DE f7 (encI k c s n f len bs).1 = 42 := by
  unfold encI at *
  by_cases hE : LW k c s n f len len = 0
  · rw [if_pos hE] at *
    have hz := LW_zero hE
    refine DE_check (by show 19 ≤ 15 + len + 4; omega) (by show 15 + len + 4 ≤ 27; omega) (fun h => ?_)
    have hS : PM.R PM.g 32 (PM.V (PM.fb (PM.sl (fr k c s n f.toNat len bs) (15 + len))) (8 * (15 + len + 4))) = 0 := PM.V_sl _ _
    unfold vld at h
    rw [hV, PM.R_xor] at h
    rw [show PM.R PM.g 32 (PM.V (PM.fb (15 + len + 4, PM.sl (fr k c s n f.toNat len bs) (15 + len)).2) (8 * (15 + len + 4, PM.sl (fr k c s n f.toNat len bs) (15 + len)).1)) = 0 from hS, Nat.zero_xor] at h
    exact h0 (PM.burst x d hx h)
  · rw [if_neg hE] at hroom
    exfalso
    have : PM.bl x ≤ 0 := hroom
    rw [PM.bl_pos h0] at this
    omega
theorem spoilt_f {k c s n : Nat} {f : Int} {len : Nat} {bs f7 : Nat → Nat} {x d : Nat} {F : Fm} (e : encI k c s n f len bs = F) (hx : x < 4294967296) (h0 : x ≠ 0) (hroom : PM.bl x ≤ 8 * F.1) (hV : PM.V (PM.fb f7) (8 * F.1) = PM.V (PM.fb F.2) (8 * F.1) ^^^ PM.C x (2 ^ d)) : DE f7 F.1 = 42 := by
  subst e
  exact spoilt_DE hx h0 hroom hV
end Go.Proofs.YtffehehghpafdaaGreat
namespace Go.Proofs.YtffehehghpafdaaGreat
set_option maxRecDepth 100000
open Go.RowKit
section
variable {w w' : World} {d m g n mx : Nat} {P : Pm} {U l : List Nat} {s : Sd}
theorem DX.off {B : Bk} {A : Prop} (h : DX w d m g n mx P U s B A) (q : Off l w w') (hl : ∀ k, k ∈ U → k ∉ l) : DX w' d m g n mx P U s B A :=
  ⟨(q.block d h.dlt (hl _ h.kd.2)).trans h.dev, h.mem.off q (hl _ h.km.2) (hl _ h.kg.2), fun hs => ⟨(h.cel hs).1, (h.cel hs).2.1.off q (hl _ h.kc.2), (h.cel hs).2.2⟩, h.dog.off q (hl _ h.kb.2), h.val.off q (hl _ h.kv.2) (hl _ h.kw.2) (fun k hk hM => hl k (h.kM k hM).2 hk), h.log.off q (fun k hk => hl _ (h.kl k hk).2), own_offk h.app q (fun k hk => hl _ (h.ka k hk).2), h.apb, fun k hk => Nat.lt_of_lt_of_le (h.ltU k hk) q.size, h.kd, h.km, h.kg, h.kc, h.kb, h.kv, h.kw, h.kM, h.kl, h.ka, h.pok, h.n10, h.mx0, h.mxl⟩
theorem RB.off {B : Bk2} {A : Prop} (h : RB w d m g n mx P U s B A) (q : Off l w w') (hl : ∀ k, k ∈ U → k ∉ l) : RB w' d m g n mx P U s B A :=
  ⟨(q.block d h.dlt (hl _ h.kd.2)).trans h.dev, h.mem.off q (hl _ h.km.2) (hl _ h.kg.2), fun hs => ⟨(h.cel hs).1, (h.cel hs).2.1.off q (hl _ h.kc.2), (h.cel hs).2.2⟩, h.val.off q (fun k hk hM => hl k (h.kM k hM).2 hk), own_offk h.log q (fun k hk => hl _ (h.kl k hk).2), own_offk h.app q (fun k hk => hl _ (h.ka k hk).2), h.apb, h.vok, h.dcl, fun k hk => Nat.lt_of_lt_of_le (h.ltU k hk) q.size, h.kd, h.km, h.kg, h.kc, h.kM, h.kl, h.ka, h.pok, h.n10, h.mx0, h.mxl, h.nl⟩
theorem DV.off (h : DV w d m g n mx P U s) (q : Off l w w') (hl : ∀ k, k ∈ U → k ∉ l) : DV w' d m g n mx P U s := by
  obtain ⟨B, h⟩ := h
  exact ⟨B, h.off q hl⟩
theorem RW.off (h : RW w d m g n mx P U s) (q : Off l w w') (hl : ∀ k, k ∈ U → k ∉ l) : RW w' d m g n mx P U s := by
  obtain ⟨B, h⟩ := h
  exact ⟨B, h.off q hl⟩
end
structure Pl where
  d : Nat
  m : Nat
  g : Nat
  e : Nat
  r : Nat
  q : Nat
  n : Nat
  mx : Nat
  P : Pm
  K : List (Nat × Option Obj)
structure Bt (w0 w : World) (L : Pl) (s t : Sd) (F : List Nat) (U V : List Nat) : Prop where
  bel : Below w0.heap.size w0 w
  dv : DV w L.d L.m L.g L.n L.mx L.P U s
  rw : RW w L.e L.r L.q L.n L.mx L.P V t
  uv : ∀ k, k ∈ U → w0.heap.size ≤ k ∧ k ∉ V
  vb : ∀ k, k ∈ V → w0.heap.size ≤ k
  fr : ∀ k, k ∈ F → k < w.heap.size ∧ k ∉ U ∧ k ∉ V
  kp : ∀ x, x ∈ L.K → (x.1 < w.heap.size ∧ x.1 ∉ U ∧ x.1 ∉ V) ∧ w.heap[x.1]? = x.2
section
variable {w0 w w' : World} {L : Pl} {s t s' : Sd} {F U V U' : List Nat}
theorem Bt.dev (h : Bt w0 w L s t F U V) (g : Gr U w U' w') (x : DV w' L.d L.m L.g L.n L.mx L.P U' s') : Bt w0 w' L s' t F U' V :=
  ⟨g.off.below h.bel (fun k hk => (h.uv k hk).1) h.bel.size, x, h.rw.off g.off (fun k hk hU => (h.uv k hU).2 hk), fun k hk => by
    rcases g.new k hk with h1 | h1
    · exact h.uv k h1
    · exact ⟨Nat.le_trans h.bel.size h1, fun hV => by have := h.rw.ult k hV; omega⟩, h.vb, fun k hk => ⟨Nat.lt_of_lt_of_le (h.fr k hk).1 g.off.size, g.out (h.fr k hk).1 (h.fr k hk).2.1, (h.fr k hk).2.2⟩, fun x hx => ⟨⟨Nat.lt_of_lt_of_le (h.kp x hx).1.1 g.off.size, g.out (h.kp x hx).1.1 (h.kp x hx).1.2.1, (h.kp x hx).1.2.2⟩, (g.off.block _ (h.kp x hx).1.1 (h.kp x hx).1.2.1).trans (h.kp x hx).2⟩⟩
theorem Bt.ref (h : Bt w0 w L s t F U V) (g : Gr V w U' w') (x : RW w' L.e L.r L.q L.n L.mx L.P U' s') : Bt w0 w' L s s' F U U' :=
  ⟨g.off.below h.bel h.vb h.bel.size, h.dv.off g.off (fun k hk hV => (h.uv k hk).2 hV), x, fun k hk => ⟨(h.uv k hk).1, g.out (h.dv.ult k hk) (h.uv k hk).2⟩, fun k hk => by
    rcases g.new k hk with h1 | h1
    · exact h.vb k h1
    · exact Nat.le_trans h.bel.size h1, fun k hk => ⟨Nat.lt_of_lt_of_le (h.fr k hk).1 g.off.size, (h.fr k hk).2.1, g.out (h.fr k hk).1 (h.fr k hk).2.2⟩, fun x hx => ⟨⟨Nat.lt_of_lt_of_le (h.kp x hx).1.1 g.off.size, (h.kp x hx).1.2.1, g.out (h.kp x hx).1.1 (h.kp x hx).1.2.2⟩, (g.off.block _ (h.kp x hx).1.1 (h.kp x hx).1.2.2).trans (h.kp x hx).2⟩⟩
theorem Bt.below (h : Bt w0 w L s t F U V) (b : Below w.heap.size w w') : Bt w0 w' L s t F U V :=
  ⟨h.bel.trans (b.mono h.bel.size), h.dv.below b, h.rw.below b, h.uv, h.vb, fun k hk => ⟨Nat.lt_of_lt_of_le (h.fr k hk).1 b.size, (h.fr k hk).2⟩, fun x hx => ⟨⟨Nat.lt_of_lt_of_le (h.kp x hx).1.1 b.size, (h.kp x hx).1.2⟩, (b.block _ (h.kp x hx).1.1).trans (h.kp x hx).2⟩⟩
theorem Bt.more (h : Bt w0 w L s t F U V) (b : Below w.heap.size w w') {k : Nat} (h1 : w.heap.size ≤ k) (h2 : k < w'.heap.size) : Bt w0 w' L s t (k :: F) U V := by
  have h' := h.below b
  refine ⟨h'.bel, h'.dv, h'.rw, h'.uv, h'.vb, fun j hj => ?_, h'.kp⟩
  rcases List.mem_cons.1 hj with e | hj
  · subst e
    exact ⟨h2, fun hm => by have := h.dv.ult _ hm; omega, fun hm => by have := h.rw.ult _ hm; omega⟩
  · exact h'.fr j hj
theorem Bt.kept (h : Bt w0 w L s t F U V) (g : Gr U w U' w') {k : Nat} (hk : k ∈ F) : w'.heap[k]? = w.heap[k]? := g.off.block k (h.fr k hk).1 (h.fr k hk).2.1
theorem Bt.keptR (h : Bt w0 w L s t F U V) (g : Gr V w U' w') {k : Nat} (hk : k ∈ F) : w'.heap[k]? = w.heap[k]? := g.off.block k (h.fr k hk).1 (h.fr k hk).2.2
theorem Bt.less (h : Bt w0 w L s t F U V) {F' : List Nat} (hf : ∀ k, k ∈ F' → k ∈ F) : Bt w0 w L s t F' U V := ⟨h.bel, h.dv, h.rw, h.uv, h.vb, fun k hk => h.fr k (hf k hk), h.kp⟩
theorem Bt.tell (h : Bt w0 w L s t F U V) (K : List (Nat × Option Obj)) (hk : ∀ x, x ∈ K → (x.1 < w.heap.size ∧ x.1 ∉ U ∧ x.1 ∉ V) ∧ w.heap[x.1]? = x.2) : Bt w0 w { L with K := K } s t F U V := ⟨h.bel, h.dv, h.rw, h.uv, h.vb, h.fr, hk⟩
theorem Bt.far (h : Bt w0 w L s t F U V) {k : Nat} (hk : w.heap.size ≤ k) : k ∉ U ∧ k ∉ V := ⟨fun hm => by have := h.dv.ult _ hm; omega, fun hm => by have := h.rw.ult _ hm; omega⟩
end
theorem Row8.blk {w w' : World} {a : Option Addr} {len cap : Nat} {bs : Nat → Nat} (h : Row8 w a len cap bs) (hb : ∀ x, a = some x → w'.heap[x.block]? = w.heap[x.block]?) : Row8 w' a len cap bs :=
  ⟨h.byte, h.nil, fun x hx i hi => (World.cell?_of_block (a := x.add i) (by
    have e : (x.add i).block = x.block := by unfold Addr.add; split <;> rfl
    rw [e]; exact hb x hx)).trans (h.src x hx i hi), h.le⟩
structure Ph (w0 w : World) (L : Pl) (s t : Sd) (b : Nat) (O : Array Value) (a : Option Addr) (len cap : Nat) (bs : Nat → Nat) : Prop where
  bt : ∃ U V, Bt w0 w L s t [b] U V
  bx : w.heap[b]? = some (.cells O 32 (0, 0))
  row : Row8 w a len cap bs
  low : ∀ y, a = some y → 0 < len → y.block < w0.heap.size
section
variable {w0 w w' : World} {L : Pl} {s t : Sd} {b : Nat} {O : Array Value} {a : Option Addr} {len cap : Nat} {bs : Nat → Nat}
theorem Ph.dev (h : Ph w0 w L s t b O a len cap bs) : ∃ U, DV w L.d L.m L.g L.n L.mx L.P U s ∧ ∀ U' w' s', Gr U w U' w' → DV w' L.d L.m L.g L.n L.mx L.P U' s' → Ph w0 w' L s' t b O a len cap bs := by
  obtain ⟨U, V, T⟩ := h.bt
  exact ⟨U, T.dv, fun U' w' s' g x => ⟨⟨U', V, T.dev g x⟩, (T.kept g (by simp)).trans h.bx, h.row.off0 g.off (fun y hy h0 hm => by have := h.low y hy h0; have := (T.uv _ hm).1; omega), h.low⟩⟩
theorem Ph.ref (h : Ph w0 w L s t b O a len cap bs) : ∃ V, RW w L.e L.r L.q L.n L.mx L.P V t ∧ ∀ V' w' t', Gr V w V' w' → RW w' L.e L.r L.q L.n L.mx L.P V' t' → Ph w0 w' L s t' b O a len cap bs := by
  obtain ⟨U, V, T⟩ := h.bt
  exact ⟨V, T.rw, fun V' w' t' g x => ⟨⟨U, V', T.ref g x⟩, (T.keptR g (by simp)).trans h.bx, h.row.off0 g.off (fun y hy h0 hm => by have := h.low y hy h0; have := T.vb _ hm; omega), h.low⟩⟩
theorem Ph.below (h : Ph w0 w L s t b O a len cap bs) (q : Below w.heap.size w w') : Ph w0 w' L s t b O a len cap bs := by
  obtain ⟨U, V, T⟩ := h.bt
  exact ⟨⟨U, V, T.below q⟩, (q.block b (T.fr b (by simp)).1).trans h.bx, h.row.below q, h.low⟩
theorem Ph.drew (h : Ph w0 w L s t b O a len cap bs) : Ph w0 w.drew L s t b O a len cap bs := h.below (Below.drew (Below.refl _ _))
theorem Ph.lt (h : Ph w0 w L s t b O a len cap bs) : b < w.heap.size := by
  obtain ⟨U, V, T⟩ := h.bt
  exact (T.fr b (by simp)).1
end
def Two (w0 w : World) (L : Pl) (s : Sd) : Prop := ∃ U V, Bt w0 w L s s [] U V
theorem Two.ph {w0 w : World} {L : Pl} {s : Sd} {a : Option Addr} {len cap : Nat} {bs : Nat → Nat} (h : Two w0 w L s) (O : Array Value) (hr : Row8 w a len cap bs) (hl : ∀ y, a = some y → 0 < len → y.block < w0.heap.size) : Ph w0 (w.alloc (.cells O 32)) L s s w.heap.size O a len cap bs := by
  obtain ⟨U, V, T⟩ := h
  have b : Below w.heap.size w (w.alloc (.cells O 32)) := (Below.refl _ _).alloc (Nat.le_refl _) _
  exact ⟨⟨U, V, T.more b (Nat.le_refl _) (by simp)⟩, heap_alloc_new w _, hr.below b, hl⟩
theorem Ph.two {w0 w : World} {L : Pl} {s : Sd} {b : Nat} {O : Array Value} {a : Option Addr} {len cap : Nat} {bs : Nat → Nat} (h : Ph w0 w L s s b O a len cap bs) : Two w0 w L s := by
  obtain ⟨U, V, T⟩ := h.bt
  exact ⟨U, V, T.less (by simp)⟩
theorem Two.below {w0 w w' : World} {L : Pl} {s : Sd} (h : Two w0 w L s) (b : Below w.heap.size w w') : Two w0 w' L s := by
  obtain ⟨U, V, T⟩ := h
  exact ⟨U, V, T.below b⟩
theorem two_made {w0 w w1 w2 : World} {L : Pl} {s : Sd} {U V : List Nat} (bel : Below w0.heap.size w0 w) (o1 : Off [L.m, L.g] w w1) (D : DV w1 L.d L.m L.g L.n L.mx L.P U s) (hU : ∀ k, k ∈ U → k = L.m ∨ k = L.g ∨ w.heap.size ≤ k)
    (o2 : Off [L.r, L.q] w1 w2) (R : RW w2 L.e L.r L.q L.n L.mx L.P V s) (hV : ∀ k, k ∈ V → k = L.r ∨ k = L.q ∨ w1.heap.size ≤ k) (h0 : w0.heap.size ≤ L.m ∧ w0.heap.size ≤ L.g ∧ w0.heap.size ≤ L.r ∧ w0.heap.size ≤ L.q)
    (hne : L.m ≠ L.r ∧ L.m ≠ L.q ∧ L.g ≠ L.r ∧ L.g ≠ L.q) (hlt : L.r < w.heap.size ∧ L.q < w.heap.size) (hK : L.K = []) : Two w0 w2 L s := by
  have s1 := o1.size
  have sb := bel.size
  have b1 : Below w0.heap.size w0 w1 := o1.below bel (by simp; omega) bel.size
  have hUr : ∀ k, k ∈ U → k ∉ [L.r, L.q] := fun k hk hm => by
    have := hU k hk
    simp at hm
    omega
  refine ⟨U, V, o2.below b1 (by simp; omega) b1.size, D.off o2 hUr, R, fun k hk => ⟨?_, fun hm => ?_⟩, fun k hk => ?_, fun k hk => by simp at hk, fun x hx => by rw [hK] at hx; simp at hx⟩
  · have := hU k hk; omega
  · have h1 := hU k hk
    have h2 := hV k hm
    have h3 := D.ult k hk
    omega
  · have := hV k hk; omega
end Go.Proofs.YtffehehghpafdaaGreat
namespace Go.Proofs.YtffehehghpafdaaGreat
set_option maxRecDepth 100000
open Go.RowKit
structure Dr where
  d : Nat
  m : Nat
  g : Nat
  n : Nat
  mx : Nat
  P : Pm
  s : Sd
structure Thing where
  U : List Nat
  T : World → Prop
  st : ∀ w w' l, T w → Off l w w' → (∀ k, k ∈ U → k ∉ l) → T w'
def noT : Thing := ⟨[], fun _ => True, fun _ _ _ _ _ _ => trivial⟩
def putT (t : Nat → Thing) (i : Nat) (x : Thing) : Nat → Thing := fun j => if j = i then x else t j
theorem putT_same (t : Nat → Thing) (i : Nat) (x : Thing) : putT t i x i = x := if_pos rfl
theorem putT_ne (t : Nat → Thing) {i j : Nat} (x : Thing) (h : j ≠ i) : putT t i x j = t j := if_neg h
structure Al (w0 w : World) (t : Nat → Thing) : Prop where
  bel : Below w0.heap.size w0 w
  ok : ∀ i, (t i).T w
  lt : ∀ i k, k ∈ (t i).U → w0.heap.size ≤ k ∧ k < w.heap.size
  dis : ∀ i j, i ≠ j → ∀ k, k ∈ (t i).U → k ∉ (t j).U
section
variable {w0 w w' : World} {t : Nat → Thing}
theorem Al.start (w : World) : Al w w (fun _ => noT) := ⟨Below.refl _ _, fun _ => trivial, fun _ k hk => by simp [noT] at hk, fun _ _ _ k hk => by simp [noT] at hk⟩
theorem Al.size (h : Al w0 w t) : w0.heap.size ≤ w.heap.size := h.bel.size
theorem Al.get (h : Al w0 w t) {i : Nat} {x : Thing} (e : t i = x) : x.T w := e ▸ h.ok i
theorem Al.turn (h : Al w0 w t) (i : Nat) (x : Thing) (o : Off (t i).U w w') (hx : x.T w') (hl : ∀ k, k ∈ x.U → w0.heap.size ≤ k ∧ k < w'.heap.size) (hd : ∀ k, k ∈ x.U → ∀ j, j ≠ i → k ∉ (t j).U) : Al w0 w' (putT t i x) where
  bel := o.below h.bel (fun k hk => (h.lt i k hk).1) h.bel.size
  ok := fun j => by
    by_cases e : j = i
    · subst e; rw [putT_same]; exact hx
    · rw [putT_ne t x e]; exact (t j).st w w' _ (h.ok j) o (h.dis j i e)
  lt := fun j k hk => by
    by_cases e : j = i
    · subst e; rw [putT_same] at hk; exact hl k hk
    · rw [putT_ne t x e] at hk; have := h.lt j k hk; exact ⟨this.1, Nat.lt_of_lt_of_le this.2 o.size⟩
  dis := fun a b hab k ha hb => by
    by_cases ea : a = i
    · subst ea
      rw [putT_same] at ha
      rw [putT_ne t x (Ne.symm hab)] at hb
      exact hd k ha b (Ne.symm hab) hb
    · by_cases eb : b = i
      · subst eb
        rw [putT_ne t x ea] at ha
        rw [putT_same] at hb
        exact hd k hb a ea ha
      · rw [putT_ne t x ea] at ha
        rw [putT_ne t x eb] at hb
        exact h.dis a b hab k ha hb
theorem Al.step (h : Al w0 w t) (i : Nat) (x : Thing) {U : List Nat} (hU : (t i).U = U) (g : Gr U w x.U w') (hx : x.T w') (hl : ∀ k, k ∈ x.U → k < w'.heap.size) : Al w0 w' (putT t i x) := by
  subst hU
  refine h.turn i x g.off hx (fun k hk => ⟨?_, hl k hk⟩) (fun k hk j hj hm => ?_)
  · rcases g.new k hk with h1 | h1
    · exact (h.lt i k h1).1
    · exact Nat.le_trans h.bel.size h1
  · exact g.out (h.lt j k hm).2 (h.dis j i hj k hm) hk
theorem Al.below (h : Al w0 w t) (b : Below w.heap.size w w') : Al w0 w' t :=
  ⟨h.bel.trans (b.mono h.bel.size), fun i => (t i).st w w' [] (h.ok i) (Off.of_below b) (by simp), fun i k hk => ⟨(h.lt i k hk).1, Nat.lt_of_lt_of_le (h.lt i k hk).2 b.size⟩, h.dis⟩
theorem Al.drewN (h : Al w0 w t) (n : Nat) : Al w0 (w.drewN n) t := h.below ⟨rfl, rfl, rfl, Nat.le_refl _, fun _ _ => rfl⟩
theorem Al.same (h : Al w0 w t) {t' : Nat → Thing} (e : ∀ i, t' i = t i) : Al w0 w t' := by
  have : t' = t := funext e
  rw [this]; exact h
theorem Al.drop (h : Al w0 w t) (i : Nat) : Al w0 w (putT t i noT) := h.turn i noT (Off.refl _ _) trivial (fun k hk => by simp [noT] at hk) (fun k hk => by simp [noT] at hk)
theorem Al.old (h : Al w0 w t) {k : Nat} (hk : k < w0.heap.size) : w.heap[k]? = w0.heap[k]? := h.bel.block k hk
end
end Go.Proofs.YtffehehghpafdaaGreat
namespace Go.Proofs.YtffehehghpafdaaGreat
set_option maxRecDepth 100000
open Go.RowKit
def Pc (c : Nat) : Pm := ⟨c, 2, 1, 10, 9⟩
theorem Pc_ok (c : Nat) (h : c ≠ 0) (hc : c < 4294967296) : Pok (Pc c) := ⟨by unfold okP Pc; dsimp only; omega, hc, by show (9 : Nat) < 4294967296; omega⟩
theorem pset (w : World) (c : Int) : ∃ W, w.alloc (.cells #[.int .u32 c, .int .i64 2, .int .i64 1, .int .i64 10, .int .u32 9] 49) = W ∧ Below w.heap.size w W ∧ W.heap[w.heap.size]? = some (.cells #[.int .u32 c, .int .i64 2, .int .i64 1, .int .i64 10, .int .u32 9] 49 (0, 0)) := by
  refine ⟨_, rfl, (Below.refl _ w).alloc (Nat.le_refl _) _, heap_alloc_new w _⟩
set_option maxHeartbeats 4000000 in
theorem made16 (c : Nat) (h0 : c ≠ 0) (hc : c < 4294967296) (w : World) :
    Calls Tryz.prog 12 #[.int .u32 (c : Nat)] w fun e w' => ∃ L : Pl, e = .returned (.tuple #[.pointer (some ⟨L.d, 0, none⟩), .pointer (some ⟨L.m, 0, none⟩), .pointer (some ⟨L.e, 0, none⟩)]) ∧ Hid (L.n = 16 ∧ L.mx = 99 ∧ L.P = Pc c ∧ Two w w' L (dnew M0)) := by
  have hS : Calls Tryz.prog 30 #[] w fun e w' => e = .returned (.agg #[.int .u32 7, .int .i64 2, .int .i64 1, .int .i64 10, .int .u32 9]) ∧ Below w.heap.size w w' := small_any w
  have hP := Pc_ok c h0 hc
  have hO := open0 99 (by omega)
  go_enter Tryz.func12, Tryz.ntmps12
  go_wp2_with (go_at_call 30; refine hS.mono ?_; rintro e w1 ⟨rfl, b1⟩)
  obtain ⟨W, hW, bW, pW⟩ := pset w1 (c : Nat)
  rw [hW]
  have hM := new_ok 16 W (by omega)
  refine hM.mono ?_
  rintro e w3 ⟨m, g, rfl, h3⟩
  have hR := rnew_ok 16 w3 (by omega)
  clear hM hS hW
  go_wp2_with fail
  refine hR.mono ?_
  rintro e w4 ⟨r, q, rfl, h4⟩
  obtain ⟨m1, g1, o3, x3⟩ := h3.out
  obtain ⟨r1, q1, o4, x4⟩ := h4.out
  have lp : w1.heap.size < W.heap.size := (Array.getElem?_eq_some_iff.1 pW).1
  have s3 := o3.size
  have s4 := o4.size
  have p4 : w4.heap[w1.heap.size]? = _ := (o4.block _ (by omega) (by simp)).trans ((o3.block _ lp (by simp)).trans pW)
  have x3' := x3.off o4 (by simp) (by simp)
  have hN : Calls Tryz.prog 32 #[.agg #[.int .u32 (c : Nat), .int .i64 2, .int .i64 1, .int .i64 10, .int .u32 9], .pointer (some ⟨m, 0, none⟩), .int .u32 99] w4 _ := newD_ok m g 16 99 (Pc c) hP M0 w4 x3' (by omega) (by decide) hO.1
  rw [hO.2] at hN
  have k0 := cell_of_row w4 w1.heap.size 0 _ _ _ p4
  have k1 := cell_of_row w4 w1.heap.size 1 _ _ _ p4
  have k2 := cell_of_row w4 w1.heap.size 2 _ _ _ p4
  have k3 := cell_of_row w4 w1.heap.size 3 _ _ _ p4
  have k4 := cell_of_row w4 w1.heap.size 4 _ _ _ p4
  have bel : Below w.heap.size w w4 := o4.below (o3.below (b1.trans (bW.mono b1.size)) (by simp) (Nat.le_trans b1.size bW.size)) (by simp) (Nat.le_trans (Nat.le_trans b1.size bW.size) s3)
  have lr := x4.lt
  have lg := x4.lg
  have HA : Hid (_) := And.intro bel (And.intro x4 (And.intro p4 (And.intro (And.intro m1 g1) (And.intro (And.intro r1 q1) (And.intro (And.intro lp b1.size) (And.intro (And.intro bW.size (And.intro s3 s4)) (And.intro (And.intro x3.lt x3.lg) (And.intro lr lg))))))))
  clear hR h3 h4 m1 g1 r1 q1 o3 o4 x3 x3' x4 b1 bW pW bel lr lg p4
  go_wp2_with fail
  refine hN.mono ?_
  rintro e w5 ⟨d, rfl, h5⟩
  obtain ⟨U, o5, D5, hU⟩ := h5.out
  obtain ⟨bel, x4, p4, hm, hr, ⟨lp', lb⟩, ⟨lW, l3, l4⟩, ⟨lm, lg⟩, ⟨lr, lq⟩⟩ := HA.out
  have x5 := x4.off o5 (by simp; omega) (by simp; omega)
  have p5 : w5.heap[w1.heap.size]? = _ := (o5.block _ (by omega) (by simp; omega)).trans p4
  have k0 := cell_of_row w5 w1.heap.size 0 _ _ _ p5
  have k1 := cell_of_row w5 w1.heap.size 1 _ _ _ p5
  have k2 := cell_of_row w5 w1.heap.size 2 _ _ _ p5
  have k3 := cell_of_row w5 w1.heap.size 3 _ _ _ p5
  have k4 := cell_of_row w5 w1.heap.size 4 _ _ _ p5
  have hQ : Calls Tryz.prog 51 #[.agg #[.int .u32 (c : Nat), .int .i64 2, .int .i64 1, .int .i64 10, .int .u32 9], .pointer (some ⟨r, 0, none⟩), .int .u32 99] w5 _ := rnew_any r q 16 99 (Pc c) hP M0 w5 x5 (by omega) (by decide)
  have HB : Hid (_) := And.intro o5 (And.intro D5 hU)
  clear hN h5 o5 D5 hU bel x4 p4 x5 p5
  go_wp2_with fail
  refine hQ.mono ?_
  rintro e w6 ⟨p, rfl, h6⟩
  obtain ⟨o6, _, h6a, _⟩ := h6.out
  obtain ⟨d', V, rfl, R6, hV⟩ := h6a hO.1
  rw [hO.2] at R6
  have HC : Hid (_) := And.intro o6 (And.intro R6 hV)
  clear hQ h6 o6 R6 hV h6a
  go_wp2_with fail
  refine bodyPost_ret (v := .tuple #[.pointer (some ⟨d, 0, none⟩), .pointer (some ⟨m, 0, none⟩), .pointer (some ⟨d', 0, none⟩)]) (by simp [results, Tryz.results12, go_sem]) rfl ?_
  obtain ⟨o5, D5, hU⟩ := HB.out
  obtain ⟨o6, R6, hV⟩ := HC.out
  obtain ⟨bel, _⟩ := HA.out
  have z1 : w.heap.size ≤ m := by omega
  have z2 : w.heap.size ≤ g := by omega
  have z3 : w.heap.size ≤ r := by omega
  have z4 : w.heap.size ≤ q := by omega
  have y1 : m ≠ r := by omega
  have y2 : m ≠ q := by omega
  have y3 : g ≠ r := by omega
  have y4 : g ≠ q := by omega
  exact ⟨⟨d, m, g, d', r, q, 16, 99, Pc c, []⟩, rfl, rfl, rfl, rfl, two_made bel o5 D5 hU o6 R6 hV ⟨z1, z2, z3, z4⟩ ⟨y1, y2, y3, y4⟩ ⟨lr, lq⟩ rfl⟩
end Go.Proofs.YtffehehghpafdaaGreat
namespace Go.Proofs.YtffehehghpafdaaGreat
set_option maxRecDepth 100000
open Go.RowKit Go.Maps
structure Prt where
  c : Nat
  d : Nat
  k : Nat
  n : Nat
def rdQ : Value → Option (DataW Unit × List MemPlace)
  | .agg cs => match cs.toList with
    | [.pointer none, .pointer none] => some (.lit (.int .i64 (-1)), [])
    | [.pointer (some ⟨d, 0, none⟩), .pointer (some ⟨k, 0, none⟩)] => some (.agg [.lit (.int .i64 d), .lit (.int .i64 k)], [])
    | _ => none
  | _ => none
def datq : Option (Nat × Nat) → DataW Unit
  | none => .lit (.int .i64 (-1))
  | some x => .agg [.lit (.int .i64 x.1), .lit (.int .i64 x.2)]
def ptq : Option (Nat × Nat) → Value
  | none => .agg #[.pointer none, .pointer none]
  | some x => .agg #[.pointer (some ⟨x.1, 0, none⟩), .pointer (some ⟨x.2, 0, none⟩)]
theorem rdQ_ptq (o : Option (Nat × Nat)) : rdQ (ptq o) = some (datq o, []) := by cases o <;> rfl
theorem datq_inj {o o' : Option (Nat × Nat)} (h : datq o = datq o') : o = o' := by
  cases o with
  | none => cases o' with
    | none => rfl
    | some y => simp [datq] at h
  | some x => cases o' with
    | none => simp [datq] at h
    | some y =>
      obtain ⟨a, b⟩ := x
      obtain ⟨a', b'⟩ := y
      simp [datq] at h
      obtain ⟨h1, h2⟩ := h
      rw [show a = a' by omega, show b = b' by omega]
theorem rdQ_inv {v : Value} {o : Option (Nat × Nat)} {ps : List MemPlace} (h : rdQ v = some (datq o, ps)) : v = ptq o := by
  unfold rdQ at h
  split at h
  · rename_i cs
    split at h
    · rename_i e
      simp only [Option.some.injEq, Prod.mk.injEq] at h
      have := datq_inj (o := none) (o' := o) h.1
      subst this
      have e2 : cs = #[.pointer none, .pointer none] := Array.toList_inj.1 e
      rw [e2]; rfl
    · rename_i d k e
      simp only [Option.some.injEq, Prod.mk.injEq] at h
      have := datq_inj (o := some (d, k)) (o' := o) h.1
      subst this
      have e2 : cs = #[.pointer (some ⟨d, 0, none⟩), .pointer (some ⟨k, 0, none⟩)] := Array.toList_inj.1 e
      rw [e2]; rfl
    · cases h
  · cases h
def fnd : List Prt → Nat → Option Prt
  | [], _ => none
  | p :: L, c => if p.c = c then some p else fnd L c
def fndq (L : List Prt) (c : Nat) : Option (Nat × Nat) := (fnd L c).map fun p => (p.d, p.k)
theorem fnd_mem {L : List Prt} {c : Nat} {p : Prt} (h : fnd L c = some p) : p ∈ L ∧ p.c = c := by
  induction L with
  | nil => simp [fnd] at h
  | cons q L ih =>
    unfold fnd at h
    split at h
    · rename_i e
      cases h
      exact ⟨by simp, e⟩
    · exact ⟨by simp [(ih h).1], (ih h).2⟩
theorem fnd_none {L : List Prt} {c : Nat} (h : fnd L c = none) : ∀ p, p ∈ L → p.c ≠ c := by
  induction L with
  | nil => simp
  | cons q L ih =>
    unfold fnd at h
    split at h
    · cases h
    · rename_i e
      intro p hp
      rcases List.mem_cons.1 hp with rfl | hp
      · exact e
      · exact ih h p hp
theorem fnd_app (L M : List Prt) (c : Nat) : fnd (L ++ M) c = match fnd L c with | some p => some p | none => fnd M c := by
  induction L with
  | nil => rfl
  | cons q L ih =>
    simp only [List.cons_append, fnd]
    split
    · rfl
    · exact ih
structure MX (w : World) (b : Nat) (L : List Prt) (lost l mb nn : Nat) (D : DataW Unit) : Prop where
  blk : w.heap[b]? = some (.cells #[.map (some mb), .pointer (some ⟨l, 0, none⟩)] 120 (0, 0))
  los : Met w l (lost : Nat) none 0 0 none
  map : w.ownsMap Tryz.prog 30 rdQ mb nn D
  nle : nn ≤ L.length
  siz : Maps.size D = L.length
  at_ : ∀ c : Nat, c < 4294967296 → D.atKey (.int .u32 (c : Nat)) (datq none) = datq (fndq L c)
  has_ : ∀ c : Nat, c < 4294967296 → has D (.int .u32 (c : Nat)) = (fnd L c).isSome
  key : ∀ c : Int, has D (.int .u32 c) = true → ∃ p, p ∈ L ∧ c = (p.c : Nat)
  met : ∀ p, p ∈ L → Met w p.k (p.n : Nat) none 0 0 none ∧ p.k ≠ l ∧ p.c < 4294967296
  one : L.Pairwise (fun p q => p.c ≠ q.c ∧ p.k ≠ q.k)
def MXU (L : List Prt) (b l mb : Nat) : List Nat := b :: l :: mb :: L.map (·.k)
def Mxx (w : World) (b : Nat) (L : List Prt) (lost : Nat) (V : List Nat) : Prop := ∃ l mb nn D, MX w b L lost l mb nn D ∧ V = MXU L b l mb
section
variable {w w' : World} {b : Nat} {L : List Prt} {lost l mb nn : Nat} {D : DataW Unit}
theorem MX.lt (h : MX w b L lost l mb nn D) : ∀ k, k ∈ MXU L b l mb → k < w.heap.size := by
  intro k hk
  simp [MXU] at hk
  rcases hk with rfl | rfl | rfl | ⟨p, hp, rfl⟩
  · exact (Array.getElem?_eq_some_iff.1 h.blk).1
  · exact h.los.lt
  · exact h.map.lt
  · exact (h.met p hp).1.lt
theorem MX.off {o : List Nat} (h : MX w b L lost l mb nn D) (ho : Off o w w') (hl : ∀ k, k ∈ MXU L b l mb → k ∉ o) : MX w' b L lost l mb nn D where
  blk := (ho.block b (h.lt b (by simp [MXU])) (hl b (by simp [MXU]))).trans h.blk
  los := h.los.off ho (hl l (by simp [MXU]))
  map := ownsMap_off h.map ho (hl mb (by simp [MXU]))
  nle := h.nle
  siz := h.siz
  at_ := h.at_
  has_ := h.has_
  key := h.key
  met := fun p hp => ⟨(h.met p hp).1.off ho (hl p.k (by simp [MXU]; exact .inr (.inr (.inr ⟨p, hp, rfl⟩)))), (h.met p hp).2⟩
  one := h.one
theorem MX.c0 (h : MX w b L lost l mb nn D) : w.cell? ⟨b, 0, none⟩ = some (.map (some mb)) := cell_of_row w b 0 _ _ _ h.blk
theorem MX.c1 (h : MX w b L lost l mb nn D) : w.cell? ⟨b, 1, none⟩ = some (.pointer (some ⟨l, 0, none⟩)) := cell_of_row w b 1 _ _ _ h.blk
end
theorem key_u32 : Keyed Tryz.prog 30 := int_keyed Tryz.underlying30
theorem zero_prt (w : World) : (zeroValue 122).run Tryz.prog w = .ok (ptq none) w := by kernel_rfl
theorem wf_u32 (c : Nat) (h : c < 4294967296) : (Lit.int .u32 (c : Nat)).wf = true := by
  have e1 : IntKind.u32.min = 0 := by decide
  have e2 : IntKind.u32.max = 4294967295 := by decide
  simp [Lit.wf, e1, e2]
  omega
section
variable {w : World} {b : Nat} {L : List Prt} {lost l mb nn : Nat} {D : DataW Unit}
theorem MX.look (h : MX w b L lost l mb nn D) (c : Nat) (hc : c < 4294967296) :
    (Instr.lookup 117 (.map (some mb)) (.int .u32 (c : Nat)) false).run Tryz.prog w = .ok (ptq (fndq L c)) w := by
  obtain ⟨v, ps, hrun, hv⟩ := h.map.lookup key_u32 Tryz.underlying117 (zero_prt w) (zd := datq none) (zp := []) (rdQ_ptq none) (keyOf_int_mk Tryz.underlying30 (wf_u32 c hc))
  rw [h.at_ c hc] at hv
  rw [hrun, rdQ_inv hv]
theorem MX.look2 (h : MX w b L lost l mb nn D) (c : Nat) (hc : c < 4294967296) :
    (Instr.lookup 117 (.map (some mb)) (.int .u32 (c : Nat)) true).run Tryz.prog w = .ok (.tuple #[ptq (fndq L c), .bool (fnd L c).isSome]) w := by
  obtain ⟨v, ps, hrun, hv⟩ := h.map.look_ok key_u32 Tryz.underlying117 (zero_prt w) (zd := datq none) (zp := []) (rdQ_ptq none) (keyOf_int_mk Tryz.underlying30 (wf_u32 c hc))
  rw [h.at_ c hc] at hv
  rw [hrun, rdQ_inv hv, h.has_ c hc]
end
end Go.Proofs.YtffehehghpafdaaGreat
namespace Go.Proofs.YtffehehghpafdaaGreat
set_option maxRecDepth 100000
open Go.RowKit Go.Maps
theorem map_ne (mb : Nat) (w : World) : (binOp BinOp.eql 117 (.map (some mb)) (.map none)).run Tryz.prog w = .ok (.bool false) w := by kernel_rfl
theorem prt_seen (p q : Value) (w : World) : (Instr.field 122 (.agg #[p, q]) 1).run Tryz.prog w = .ok q w := by kernel_rfl
theorem prt_dev (p q : Value) (w : World) : (Instr.field 122 (.agg #[p, q]) 0).run Tryz.prog w = .ok p w := by kernel_rfl
theorem mnone_any (b mb : Nat) (w : World) (c0 : w.cell? ⟨b, 0, none⟩ = some (.map (some mb))) : Calls Tryz.prog 55 #[.pointer (some ⟨b, 0, none⟩)] w fun e w' => e = .returned (.bool false) ∧ w' = w := by
  have hne := map_ne mb w
  go_enter Tryz.func55, Tryz.ntmps55
  go_wp2_with fail
  go_ret
  exact ⟨rfl, rfl⟩
theorem mnone_nil (w : World) : Calls Tryz.prog 55 #[.pointer none] w fun e w' => e = .returned (.bool true) ∧ w' = w := by
  go_enter Tryz.func55, Tryz.ntmps55
  go_wp2_with fail
  go_ret
  exact ⟨rfl, rfl⟩
theorem mlost_any (b : Nat) (L : List Prt) (lost : Nat) (V : List Nat) (w : World) (h : Mxx w b L lost V) (hn : lost < 1000000) : Calls Tryz.prog 26 #[.pointer (some ⟨b, 0, none⟩)] w fun e w' => e = .returned (.int .i64 (lost : Nat)) ∧ w' = w := by
  obtain ⟨l, mb, nn, D, h, _⟩ := h
  have c0 := h.c0
  have c1 := h.c1
  have hq := mnone_any b mb w c0
  have ht := total_any (lost : Nat) l none none 0 0 w h.los
  have h1 : IntKind.i64.wrap ((lost : Nat) : Int) = (lost : Int) := by rw [IntKind.wrap_i64]; omega
  go_enter Tryz.func26, Tryz.ntmps26
  go_wp2_with (first
    | (go_at_call 55; refine hq.mono ?_; rintro e w' ⟨rfl, rfl⟩)
    | (go_at_call 77; refine ht.mono ?_; rintro e w' ⟨rfl, rfl⟩))
  go_ret
  exact ⟨rfl, rfl⟩
theorem mlost_nil (w : World) : Calls Tryz.prog 26 #[.pointer none] w fun e w' => e = .returned (.int .i64 0) ∧ w' = w := by
  go_enter Tryz.func26, Tryz.ntmps26
  go_wp2_with (go_at_call 55; refine (mnone_nil _).mono ?_; rintro e w' ⟨rfl, rfl⟩)
  go_ret
  exact ⟨rfl, rfl⟩
def sns (L : List Prt) (c : Nat) : Nat := match fnd L c with | some p => p.n | none => 0
theorem mseen_any (b : Nat) (L : List Prt) (lost : Nat) (V : List Nat) (c : Nat) (w : World) (h : Mxx w b L lost V) (hc : c < 4294967296) (hn : sns L c < 1000000) : Calls Tryz.prog 25 #[.pointer (some ⟨b, 0, none⟩), .int .u32 (c : Nat)] w fun e w' => e = .returned (.int .i64 (sns L c : Nat)) ∧ w' = w := by
  obtain ⟨l, mb, nn, D, h, _⟩ := h
  have c0 := h.c0
  have hq := mnone_any b mb w c0
  have hk := h.look c hc
  have hfs := prt_seen
  cases hm : fnd L c with
  | none =>
    have e1 : sns L c = 0 := by unfold sns; rw [hm]
    have e2 : ptq (fndq L c) = .agg #[.pointer none, .pointer none] := by unfold fndq; rw [hm]; rfl
    rw [e2] at hk
    rw [e1]
    clear hn
    go_enter Tryz.func25, Tryz.ntmps25
    go_wp2_with (first
      | (go_at_call 55; refine hq.mono ?_; rintro e w' ⟨rfl, rfl⟩)
      | (go_at_call 77; refine (total_nil _).mono ?_; rintro e w' ⟨rfl, rfl⟩))
    go_ret
    exact ⟨rfl, rfl⟩
  | some p =>
    have e1 : sns L c = p.n := by unfold sns; rw [hm]
    have e2 : ptq (fndq L c) = .agg #[.pointer (some ⟨p.d, 0, none⟩), .pointer (some ⟨p.k, 0, none⟩)] := by unfold fndq; rw [hm]; rfl
    rw [e2] at hk
    rw [e1] at hn ⊢
    have ht := total_any (p.n : Nat) p.k none none 0 0 w (h.met p (fnd_mem hm).1).1
    generalize p.n = n at *
    have h1 : IntKind.i64.wrap ((n : Nat) : Int) = (n : Int) := by rw [IntKind.wrap_i64]; omega
    clear hm e1 e2
    go_enter Tryz.func25, Tryz.ntmps25
    go_wp2_with (first
      | (go_at_call 55; refine hq.mono ?_; rintro e w' ⟨rfl, rfl⟩)
      | (go_at_call 77; refine ht.mono ?_; rintro e w' ⟨rfl, rfl⟩))
    go_ret
    exact ⟨rfl, rfl⟩
theorem mseen_nil (c : Int) (w : World) : Calls Tryz.prog 25 #[.pointer none, .int .u32 c] w fun e w' => e = .returned (.int .i64 0) ∧ w' = w := by
  go_enter Tryz.func25, Tryz.ntmps25
  go_wp2_with (go_at_call 55; refine (mnone_nil _).mono ?_; rintro e w' ⟨rfl, rfl⟩)
  go_ret
  exact ⟨rfl, rfl⟩
theorem mnew_any (w : World) : Calls Tryz.prog 23 #[] w fun e w' => e = .returned (.pointer (some ⟨w.heap.size + 2, 0, none⟩)) ∧ Hid (Below w.heap.size w w' ∧ w'.heap.size = w.heap.size + 3 ∧ Mxx w' (w.heap.size + 2) [] 0 [w.heap.size + 2, w.heap.size + 1, w.heap.size]) := by
  have hmk := @run_makeMap Tryz.prog
  go_enter Tryz.func23, Tryz.ntmps23
  go_wp2_with (go_at_call 74; refine (new_any _).mono ?_; rintro e w' ⟨rfl, rfl⟩)
  go_ret
  refine ⟨rfl, ?_⟩
  clear hmk
  generalize hw1 : w.alloc (Obj.map #[] 0) = w1
  generalize hw2 : w1.alloc (Obj.cells (MtC 0 none 0 0 none) 201) = w2
  have s1 : w1.heap.size = w.heap.size + 1 := by rw [← hw1]; simp
  have s2 : w2.heap.size = w.heap.size + 2 := by rw [← hw2]; simp [s1]
  have o1 : Off [] w w1 := hw1 ▸ Off.alloc [] w _
  have o2 : Off [] w1 w2 := hw2 ▸ Off.alloc [] w1 _
  have o3 : ∀ o, Off [] w2 (w2.alloc o) := fun o => Off.alloc [] w2 o
  have m1 : w1.ownsMap Tryz.prog 30 rdQ w.heap.size 0 (.map []) := hw1 ▸ World.ownsMap_made w Tryz.prog 30 rdQ
  have m2 : Met w2 (w.heap.size + 1) 0 none 0 0 none := by
    have := new_met w1
    rw [hw2, s1] at this
    exact this
  refine ⟨((o1.trans o2).trans (o3 _)).below (Below.refl _ _) (by simp) (Nat.le_refl _), by simp [s2], w.heap.size + 1, w.heap.size, 0, .map [], ?_, rfl⟩
  have hb := heap_alloc_new w2 (Obj.cells #[Value.map (some w.heap.size), Value.pointer (some ⟨w.heap.size + 1, 0, none⟩)] 120)
  rw [s2] at hb
  exact ⟨hb, m2.off (o3 _) (by simp), ownsMap_off (ownsMap_off m1 o2 (by simp)) (o3 _) (by simp), Nat.le_refl _, rfl, fun c _ => rfl, fun c _ => rfl, fun c h => by simp [has] at h, fun p hp => by simp at hp, List.Pairwise.nil⟩
theorem mcode_any (d c : Nat) (w : World) (c0 : w.cell? ⟨d, 0, none⟩ = some (.int .u32 (c : Nat))) : Calls Tryz.prog 63 #[.pointer (some ⟨d, 0, none⟩)] w fun e w' => e = .returned (.int .u32 (c : Nat)) ∧ w' = w := by
  go_enter Tryz.func63, Tryz.ntmps63
  go_wp2_with fail
  go_ret
  exact ⟨rfl, rfl⟩
theorem madd_nil (d : Option Addr) (w : World) : Calls Tryz.prog 22 #[.pointer none, .pointer d] w fun e w' => e = .returned (.int .i64 1) ∧ w' = w := by
  go_enter Tryz.func22, Tryz.ntmps22
  go_wp2_with (go_at_call 55; refine (mnone_nil _).mono ?_; rintro e w' ⟨rfl, rfl⟩)
  go_ret
  exact ⟨rfl, rfl⟩
theorem madd_none (b mb : Nat) (w : World) (c0 : w.cell? ⟨b, 0, none⟩ = some (.map (some mb))) : Calls Tryz.prog 22 #[.pointer (some ⟨b, 0, none⟩), .pointer none] w fun e w' => e = .returned (.int .i64 1) ∧ w' = w := by
  go_enter Tryz.func22, Tryz.ntmps22
  go_wp2_with (go_at_call 55; refine (mnone_any b mb _ c0).mono ?_; rintro e w' ⟨rfl, rfl⟩)
  go_ret
  exact ⟨rfl, rfl⟩
end Go.Proofs.YtffehehghpafdaaGreat
namespace Go.Proofs.YtffehehghpafdaaGreat
set_option maxRecDepth 100000
open Go.RowKit Go.Maps
theorem madd_see {b d c : Nat} {L : List Prt} {lost l mb nn : Nat} {D : DataW Unit} {w W : World} (h : MX w b L lost l mb nn D) (hd : d < w.heap.size) (cd : w.cell? ⟨d, 0, none⟩ = some (.int .u32 (c : Nat)))
    (hW : W = (w.alloc (.cells (MtC 0 none 0 0 none) 201)).alloc (.cells #[.pointer (some ⟨d, 0, none⟩), .pointer (some ⟨w.heap.size, 0, none⟩)] 122)) :
    Below w.heap.size w W ∧ MX W b L lost l mb nn D ∧ W.cell? ⟨b, 0, none⟩ = some (.map (some mb)) ∧ W.cell? ⟨d, 0, none⟩ = some (.int .u32 (c : Nat)) ∧ W.cell? ⟨w.heap.size + 1, 0, none⟩ = some (.pointer (some ⟨d, 0, none⟩)) ∧ W.cell? ⟨w.heap.size + 1, 1, none⟩ = some (.pointer (some ⟨w.heap.size, 0, none⟩)) ∧ Met W w.heap.size 0 none 0 0 none ∧ W.heap.size = w.heap.size + 2 := by
  subst hW
  have o1 : Off [] w (w.alloc (.cells (MtC 0 none 0 0 none) 201)) := Off.alloc [] w _
  have o2 := fun o => Off.alloc [] (w.alloc (.cells (MtC 0 none 0 0 none) 201)) o
  have s1 : (w.alloc (.cells (MtC 0 none 0 0 none) 201)).heap.size = w.heap.size + 1 := by simp
  have hb := heap_alloc_new (w.alloc (.cells (MtC 0 none 0 0 none) 201)) (.cells #[.pointer (some ⟨d, 0, none⟩), .pointer (some ⟨w.heap.size, 0, none⟩)] 122)
  rw [s1] at hb
  have hm := (h.off o1 (by simp)).off (o2 (.cells #[.pointer (some ⟨d, 0, none⟩), .pointer (some ⟨w.heap.size, 0, none⟩)] 122)) (by simp)
  refine ⟨(o1.trans (o2 _)).below (Below.refl _ _) (by simp) (Nat.le_refl _), hm, hm.c0, ?_, cell_of_row _ _ 0 _ _ _ hb, cell_of_row _ _ 1 _ _ _ hb, (new_met w).off (o2 _) (by simp), by simp⟩
  exact (World.cell?_of_block ((o1.trans (o2 _)).block d hd (by simp))).trans cd
theorem MX.put {b c d k : Nat} {L : List Prt} {lost l mb nn : Nat} {D : DataW Unit} {w w' : World} (h : MX w b L lost l mb nn D) (hf : fnd L c = none) (hc : c < 4294967296) (o : Off [mb] w w') (hm : w'.ownsMap Tryz.prog 30 rdQ mb (nn + 1) (D.put (.int .u32 (c : Nat)) (datq (some (d, k))))) (hk : Met w' k 0 none 0 0 none) (hkl : k ≠ l) (hkp : ∀ p, p ∈ L → p.k ≠ k) (hbm : b ≠ mb) (hlm : l ≠ mb) (hpm : ∀ p, p ∈ L → p.k ≠ mb) :
    MX w' b (L ++ [⟨c, d, k, 0⟩]) lost l mb (nn + 1) (D.put (.int .u32 (c : Nat)) (datq (some (d, k)))) where
  blk := (o.block b (h.lt b (by simp [MXU])) (by simpa using hbm)).trans h.blk
  los := h.los.off o (by simpa using hlm)
  map := hm
  nle := by have := h.nle; simp; omega
  siz := by
    rw [size_put (h.map.tidy key_u32), h.has_ c hc, hf, h.siz]
    simp
  at_ := fun x hx => by
    unfold fndq
    rw [fnd_app]
    by_cases e : x = c
    · subst e
      rw [atKey_put_same h.map.isMap (by trivial), hf]
      simp [fnd]
    · rw [atKey_put_other (by simp; omega), h.at_ x hx]
      unfold fndq
      cases fnd L x with
      | none => simp [fnd, Ne.symm e]
      | some q => rfl
  has_ := fun x hx => by
    rw [fnd_app]
    by_cases e : x = c
    · subst e
      rw [has_put_same h.map.isMap (by trivial), hf]
      simp [fnd]
    · rw [has_put_other (by simp; omega), h.has_ x hx]
      cases fnd L x with
      | none => simp [fnd, Ne.symm e]
      | some q => rfl
  key := fun x hx => by
    by_cases e : x = (c : Int)
    · exact ⟨⟨c, d, k, 0⟩, by simp, e⟩
    · rw [has_put_other (by simpa using e)] at hx
      obtain ⟨p, hp, e2⟩ := h.key x hx
      exact ⟨p, by simp [hp], e2⟩
  met := fun p hp => by
    rcases List.mem_append.1 hp with hp | hp
    · exact ⟨(h.met p hp).1.off o (by simpa using hpm p hp), (h.met p hp).2⟩
    · simp at hp
      subst hp
      exact ⟨hk, hkl, hc⟩
  one := by
    refine List.pairwise_append.2 ⟨h.one, by simp, fun p hp q hq => ?_⟩
    simp at hq
    subst hq
    exact ⟨fnd_none hf p hp, hkp p hp⟩
theorem MX.ne {b : Nat} {L : List Prt} {lost l mb nn : Nat} {D : DataW Unit} {w : World} (h : MX w b L lost l mb nn D) : b ≠ mb ∧ l ≠ mb ∧ ∀ p, p ∈ L → p.k ≠ mb := by
  obtain ⟨es, clock, hb, _⟩ := id h.map
  refine ⟨fun e => ?_, fun e => ?_, fun p hp e => ?_⟩
  · have := h.blk
    rw [e, hb] at this
    cases this
  · have := h.los.at_
    rw [e, hb] at this
    cases this
  · have := (h.met p hp).1.at_
    rw [e, hb] at this
    cases this
def addE (L : List Prt) (c : Nat) : Int := if (fnd L c).isSome then 160 else if 8 ≤ L.length then 150 else 0
def addL (L : List Prt) (c d k : Nat) : List Prt := if (fnd L c).isSome then L else if 8 ≤ L.length then L else L ++ [⟨c, d, k, 0⟩]
set_option maxHeartbeats 4000000 in
theorem madd_any (b d c : Nat) (L : List Prt) (lost : Nat) (V : List Nat) (w : World) (h : Mxx w b L lost V) (hc : c < 4294967296) (cd : w.cell? ⟨d, 0, none⟩ = some (.int .u32 (c : Nat))) (hd : d < w.heap.size) (hL : L.length < 1000000) :
    Calls Tryz.prog 22 #[.pointer (some ⟨b, 0, none⟩), .pointer (some ⟨d, 0, none⟩)] w fun e w' => e = .returned (.int .i64 (addE L c)) ∧ Hid (∃ V', Off V w w' ∧ Mxx w' b (addL L c d w.heap.size) lost V' ∧ ∀ k, k ∈ V' → k ∈ V ∨ k = w.heap.size) := by
  obtain ⟨l, mb, nn, D, h, hV⟩ := h
  have hq := mnone_any b mb w h.c0
  have hbl := h.lt b (by simp [MXU])
  go_enter Tryz.func22, Tryz.ntmps22
  go_wp2_with (first
    | (go_at_call 55; refine hq.mono ?_; rintro e w' ⟨rfl, hw⟩; have hw := hw.symm; subst hw)
    | (go_at_call 74; refine (new_any _).mono ?_; rintro e w' ⟨rfl, hw⟩; have hw := hw.symm; subst hw))
  generalize hW : ((w.alloc (.cells (MtC 0 none 0 0 none) 201)).alloc (.cells #[.pointer (some ⟨d, 0, none⟩), .pointer (some ⟨w.heap.size, 0, none⟩)] 122)) = W
  obtain ⟨hB, hM, e1, e2, e3, e4, e6, e7⟩ := madd_see h hd cd hW.symm
  obtain ⟨xa, xb, th, hX, hth⟩ : ∃ xa xb th, ptq (fndq L c) = .agg #[.pointer xa, .pointer xb] ∧ (fnd L c).isSome = th := by
    unfold fndq
    cases fnd L c with
    | none => exact ⟨none, none, false, rfl, rfl⟩
    | some q => exact ⟨_, _, true, rfl, rfl⟩
  have hC := mcode_any d c W.drew e2
  have hk := (hM.off (Off.drew [] W) (by simp)).look2 c hc
  have hs : W.drew.heap.size = w.heap.size + 2 := e7
  have oW : Off [] W (W.alloc (.cells #[.pointer none, .pointer none] 122)).drew := (Off.alloc [] W _).trans (Off.drew [] _)
  have hC2 := mcode_any d c (W.alloc (.cells #[.pointer none, .pointer none] 122)).drew ((World.cell?_of_block (oW.block d (by omega) (by simp))).trans e2)
  have hk2 := (hM.off oW (by simp)).look2 c hc
  rw [hX, hth] at hk hk2
  have g1 : (W.alloc (.cells #[.pointer none, .pointer none] 122)).drew.cell? ⟨b, 0, none⟩ = some (.map (some mb)) := (World.cell?_of_block (oW.block b (by omega) (by simp))).trans e1
  have g3 : (W.alloc (.cells #[.pointer none, .pointer none] 122)).drew.cell? ⟨w.heap.size + 1, 0, none⟩ = some (.pointer (some ⟨d, 0, none⟩)) := (World.cell?_of_block (oW.block (w.heap.size + 1) (by omega) (by simp))).trans e3
  have n1 : ¬ b = w.heap.size + 2 := by omega
  have n2 : ¬ d = w.heap.size + 2 := by omega
  have HM : Hid (_) := And.intro hB (And.intro hM (And.intro e6 (And.intro h (And.intro hV hth))))
  clear hW hB hM h hq oW hX hth e6 hV
  go_cut [7] (fun x7 wx => x7 = .bool th ∧ Hid (Off [] W wx))
  case first =>
    go_region_with (go_at_call 63; first | (refine hC.mono ?_; rintro e w2 ⟨rfl, hw⟩; have hw := hw.symm; subst hw) | (refine hC2.mono ?_; rintro e w2 ⟨rfl, hw⟩; have hw := hw.symm; subst hw))
    all_goals
      go_wp2_with fail
      go_meet
      exact ⟨rfl, (Off.alloc [] W _).trans (Off.drew [] _)⟩
  case rest =>
    obtain ⟨rfl, H⟩ := hcut
    clear hC hC2 hk hk2 g1 g3 n1 n2 hs
    obtain ⟨hB, hM, e6, h, hV, hth⟩ := HM.out
    have oc := H.out
    have hMc := hM.off oc (by simp)
    have sc := oc.size
    have hBw : Below w.heap.size w wc := oc.below hB (by simp) hB.size
    have f1 := hMc.c0
    have f2 : wc.cell? ⟨d, 0, none⟩ = some (.int .u32 (c : Nat)) := (World.cell?_of_block (oc.block d (by omega) (by simp))).trans e2
    have f3 : wc.cell? ⟨w.heap.size + 1, 0, none⟩ = some (.pointer (some ⟨d, 0, none⟩)) := (World.cell?_of_block (oc.block (w.heap.size + 1) (by omega) (by simp))).trans e3
    have f4 : wc.cell? ⟨w.heap.size + 1, 1, none⟩ = some (.pointer (some ⟨w.heap.size, 0, none⟩)) := (World.cell?_of_block (oc.block (w.heap.size + 1) (by omega) (by simp))).trans e4
    have hlen := hMc.map.len Tryz.underlying117 3
    rw [hMc.siz] at hlen
    clear HM H e1 e2 e3 e4
    cases th with
    | true =>
      have HO : Hid (∃ V', Off V w wc ∧ Mxx wc b (addL L c d w.heap.size) lost V' ∧ ∀ k, k ∈ V' → k ∈ V ∨ k = w.heap.size) := ⟨V, Off.of_below hBw, by unfold addL; rw [hth]; exact ⟨l, mb, nn, D, hMc, hV⟩, fun k hk => .inl hk⟩
      have hE : addE L c = 160 := by unfold addE; rw [hth]; rfl
      clear hB hM e6 h hV hth oc hMc hBw hlen
      go_wp2_with fail
      go_ret
      exact ⟨by rw [hE]; rfl, HO⟩
    | false =>
      have hf : fnd L c = none := by
        cases hq : fnd L c with
        | none => rfl
        | some q => rw [hq] at hth; cases hth
      by_cases h8 : 8 ≤ L.length
      · have HO : Hid (∃ V', Off V w wc ∧ Mxx wc b (addL L c d w.heap.size) lost V' ∧ ∀ k, k ∈ V' → k ∈ V ∨ k = w.heap.size) := ⟨V, Off.of_below hBw, by unfold addL; rw [hth, if_neg (by simp), if_pos h8]; exact ⟨l, mb, nn, D, hMc, hV⟩, fun k hk => .inl hk⟩
        have hE : addE L c = 150 := by unfold addE; rw [hth, if_neg (by simp), if_pos h8]
        have h8' : (8 : Int) ≤ (L.length : Int) := by omega
        clear hB hM e6 h hV hth oc hMc hBw hf
        go_wp2_with fail
        go_ret
        exact ⟨by rw [hE]; rfl, HO⟩
      · have hE : addE L c = 0 := by unfold addE; rw [hth, if_neg (by simp), if_neg h8]
        have hLc : addL L c d w.heap.size = L ++ [⟨c, d, w.heap.size, 0⟩] := by unfold addL; rw [hth, if_neg (by simp), if_neg h8]
        have h8' : ¬ (8 : Int) ≤ (L.length : Int) := by omega
        have hMd := hMc.off (Off.drew [] wc) (by simp)
        have hnn : nn < maxLen := by have := hMc.nle; unfold maxLen; omega
        obtain ⟨w2, hrun, hown, hg⟩ := hMd.map.update key_u32 Tryz.underlying117 hnn (keyOf_int_mk Tryz.underlying30 (wf_u32 c hc)) (rdQ_ptq (some (d, w.heap.size)))
        change (Instr.mapUpdate 117 (.map (some mb)) (.int .u32 (c : Nat)) (.agg #[.pointer (some ⟨d, 0, none⟩), .pointer (some ⟨w.heap.size, 0, none⟩)])).run Tryz.prog wc.drew = .ok () w2 at hrun
        have o2 : Off [mb] wc.drew w2 := ⟨hg.os, hg.tape, hg.output, hg.size, fun k hk hb => hg.block k hk (by simp at hb; simp; exact hb)⟩
        obtain ⟨z1, z2, z3⟩ := hMd.ne
        have hmw := h.lt mb (by simp [MXU])
        have hlw := h.lt l (by simp [MXU])
        have hpw : ∀ p, p ∈ L → p.k < w.heap.size := fun p hp => h.lt p.k (by simp [MXU]; exact .inr (.inr (.inr ⟨p, hp, rfl⟩)))
        have hMn := hMd.put (d := d) (k := w.heap.size) hf hc o2 hown (((e6.off oc (by simp)).off (Off.drew [] wc) (by simp)).off o2 (by simp; omega)) (by omega) (fun p hp => by have := hpw p hp; omega) z1 z2 z3
        have HO : Hid (∃ V', Off V w w2 ∧ Mxx w2 b (L ++ [⟨c, d, w.heap.size, 0⟩]) lost V' ∧ ∀ k, k ∈ V' → k ∈ V ∨ k = w.heap.size) := by
          refine ⟨_, ((Off.of_below hBw).trans (Off.drew V wc)).trans (o2.more (fun k hk => by simp at hk; subst hk; rw [hV]; simp [MXU])), ⟨l, mb, _, _, hMn, rfl⟩, fun k hk => ?_⟩
          rw [hV]
          simp [MXU] at hk ⊢
          rcases hk with rfl | rfl | rfl | ⟨p, hp, rfl⟩ | rfl
          · exact .inl (.inl rfl)
          · exact .inl (.inr (.inl rfl))
          · exact .inl (.inr (.inr (.inl rfl)))
          · exact .inl (.inr (.inr (.inr ⟨p, hp, rfl⟩)))
          · exact .inr rfl
        have hC3 := mcode_any d c wc.drew f2
        clear hB hM e6 h hV hth oc hMc hBw hf hMd hown hg o2 z1 z2 z3 hMn hpw
        go_wp2_with fail
        go_region_with (go_at_call 63; refine hC3.mono ?_; rintro e w3 ⟨rfl, hw⟩; have hw := hw.symm; subst hw)
        all_goals
          go_wp2_with fail
          go_ret
          exact ⟨by rw [hE]; rfl, by rw [hLc]; exact HO⟩
end Go.Proofs.YtffehehghpafdaaGreat
namespace Go.Proofs.YtffehehghpafdaaGreat
set_option maxRecDepth 100000
open Go.RowKit Go.Maps
set_option maxHeartbeats 1000000 in
theorem mport_no (b : Nat) (a : Option Addr) (len cap : Nat) (bs : Nat → Nat) (w : World) (hr : Row8 w a len cap bs) (hE : DE bs len ≠ 0) :
    Calls Tryz.prog 61 #[.pointer (some ⟨b, 0, none⟩), .slice a len cap] w fun e w' => e = .returned (.tuple #[.agg #[.pointer none, .pointer none], .int .i64 (DE bs len)]) ∧ Below w.heap.size w w' := by
  have hb1 : Below w.heap.size w (w.alloc (.cells #[.pointer none, .pointer none] 122)) := (Below.refl _ _).alloc (Nat.le_refl _) _
  have hD := decode_no a len cap bs _ (hr.below hb1) hE
  have hs1 : (w.alloc (.cells #[.pointer none, .pointer none] 122)).heap.size = w.heap.size + 1 := by simp
  have hn1 := heap_alloc_new w (.cells #[.pointer none, .pointer none] 122)
  have HB : Hid (_) := And.intro hb1 (And.intro hs1 hn1)
  generalize DE bs len = E at *
  clear hr hb1 hs1 hn1
  go_enter Tryz.func61, Tryz.ntmps61
  go_wp2_with (go_at_call 86; refine hD.mono ?_; rintro e w2 ⟨rfl, b2⟩; have k := (b2.block w.heap.size (by rw [HB.out.2.1]; omega)).trans HB.out.2.2; have k0 := cell_of_row w2 w.heap.size 0 _ _ _ k; have k1 := cell_of_row w2 w.heap.size 1 _ _ _ k; have f0 := frozen_of_row w2 w.heap.size 0 _ _ k; have f1 := frozen_of_row w2 w.heap.size 1 _ _ k; have kl : w.heap.size < w2.heap.size := (Array.getElem?_eq_some_iff.1 k).1; clear hD)
  have hb2 : Below w.heap.size w w2 := HB.out.1.trans (b2.mono (by rw [HB.out.2.1]; omega))
  refine bodyPost_ret (v := .tuple #[.agg #[.pointer none, .pointer none], .int .i64 E]) (by simp [results, Tryz.results61, go_sem, k0, k1, kl]) rfl ⟨rfl, ?_⟩
  exact ((hb2.setCell (Nat.le_refl _) _).setCell (Nat.le_refl _) _).alloc (by simp; omega) _
set_option maxHeartbeats 4000000 in
theorem mport_ok (b : Nat) (L : List Prt) (lost : Nat) (V : List Nat) (a : Option Addr) (len cap : Nat) (bs : Nat → Nat) (c : Nat) (w : World) (h : Mxx w b L lost V) (hr : Row8 w a len cap bs) (hE : DE bs len = 0) (hc : c = w4v bs 1) (hcl : c < 4294967296) (E : Int) (hEE : E = if (fnd L c).isSome then 0 else 44) :
    Calls Tryz.prog 61 #[.pointer (some ⟨b, 0, none⟩), .slice a len cap] w fun e w' => e = .returned (.tuple #[ptq (fndq L c), .int .i64 E]) ∧ Below w.heap.size w w' := by
  obtain ⟨l, mb, nn, D, h, hV⟩ := h
  have hb1 : Below w.heap.size w (w.alloc (.cells #[.pointer none, .pointer none] 122)) := (Below.refl _ _).alloc (Nat.le_refl _) _
  have hD := decode_ok a len cap bs _ (hr.below hb1) hE
  rw [← hc] at hD
  have hs1 : (w.alloc (.cells #[.pointer none, .pointer none] 122)).heap.size = w.heap.size + 1 := by simp
  have hn1 := heap_alloc_new w (.cells #[.pointer none, .pointer none] 122)
  have hbl := h.lt b (by simp [MXU])
  obtain ⟨xa, xb, th, hX, hth⟩ : ∃ xa xb th, ptq (fndq L c) = .agg #[.pointer xa, .pointer xb] ∧ (fnd L c).isSome = th := by
    unfold fndq
    cases fnd L c with
    | none => exact ⟨none, none, false, rfl, rfl⟩
    | some q => exact ⟨_, _, true, rfl, rfl⟩
  have hX0 : th = false → xa = none ∧ xb = none := fun e => by
    subst e
    unfold fndq at hX
    cases hq : fnd L c with
    | none => rw [hq] at hX; simp [ptq] at hX; exact ⟨hX.1.symm, hX.2.symm⟩
    | some q => rw [hq] at hth; cases hth
  have HB : Hid (_) := And.intro hb1 (And.intro hs1 (And.intro hn1 (And.intro h (And.intro hX hth))))
  rw [hX]
  rw [hth] at hEE
  clear hr hb1 hs1 hn1 h hX hth hV hE hc
  generalize bs 0 = q0 at hD
  generalize w4v bs 5 = q5 at hD
  generalize w4v bs 9 = q9 at hD
  generalize bs 13 = q13 at hD
  generalize len - 19 = ln at hD
  go_enter Tryz.func61, Tryz.ntmps61
  go_wp2_with (go_at_call 86; refine hD.mono ?_; rintro e w2 ⟨a2, c2, rfl, h2⟩; have kl : w.heap.size < w2.heap.size := Nat.lt_of_lt_of_le (by rw [HB.out.2.1]; omega) h2.out.2.size; clear hD)
  generalize hW : w2.alloc (.cells #[.int .i64 (q0 : Nat), .int .u32 (c : Nat), .int .u32 (q5 : Nat), .int .u32 (q9 : Nat), .int .i64 (q13 : Nat), .slice a2 ln c2] 114) = W
  obtain ⟨hb1, hs1, hn1, h, hX, hth⟩ := HB.out
  have b2 := h2.out.2
  have hBW : Below w.heap.size w W := by rw [← hW]; exact (hb1.trans (b2.mono (by rw [hs1]; omega))).alloc (by omega) _
  have hsW : W.heap.size = w2.heap.size + 1 := by rw [← hW]; simp
  have hM : MX W b L lost l mb nn D := h.off (o := []) (Off.of_below hBW) (by simp)
  have e1 := hM.c0
  have hu : W.heap[w2.heap.size]? = some (.cells #[.int .i64 (q0 : Nat), .int .u32 (c : Nat), .int .u32 (q5 : Nat), .int .u32 (q9 : Nat), .int .i64 (q13 : Nat), .slice a2 ln c2] 114 (0, 0)) := by rw [← hW]; exact heap_alloc_new w2 _
  have e2 : W.cell? ⟨w2.heap.size, 1, none⟩ = some (.int .u32 (c : Nat)) := cell_of_row W w2.heap.size 1 _ _ _ hu
  have hN : W.heap[w.heap.size]? = some (.cells #[.pointer none, .pointer none] 122 (0, 0)) := by rw [← hW]; exact (Below.heap_alloc _ _ _ kl).trans ((b2.block w.heap.size (by rw [hs1]; omega)).trans hn1)
  have hk := (hM.off (Off.drew [] W) (by simp)).look2 c hcl
  have oW : Off [] W (W.alloc (.cells #[.pointer none, .pointer none] 122)).drew := (Off.alloc [] W _).trans (Off.drew [] _)
  have hk2 := (hM.off oW (by simp)).look2 c hcl
  rw [hX, hth] at hk hk2
  have g1 : (W.alloc (.cells #[.pointer none, .pointer none] 122)).drew.cell? ⟨b, 0, none⟩ = some (.map (some mb)) := (World.cell?_of_block (oW.block b (by omega) (by simp))).trans e1
  have g2 : (W.alloc (.cells #[.pointer none, .pointer none] 122)).drew.cell? ⟨w2.heap.size, 1, none⟩ = some (.int .u32 (c : Nat)) := (World.cell?_of_block (oW.block w2.heap.size (by omega) (by simp))).trans e2
  have HM : Hid (_) := And.intro hBW (And.intro hN hsW)
  clear hW hb1 hs1 hn1 h hX hth b2 hBW hM hu hN oW h2 HB
  have hs : W.drew.heap.size = W.heap.size := rfl
  go_cut [8, 9] (fun x8 x9 wx => x8 = .pointer (some ⟨W.heap.size, 0, none⟩) ∧ x9 = .bool th ∧ Hid (Off [] W wx ∧ wx.heap[W.heap.size]? = some (.cells #[.pointer xa, .pointer xb] 122 (0, 0))))
  case first =>
    go_region_with fail
    all_goals
      go_wp2_with fail
      go_meet
      exact ⟨by rw [HM.out.2.2], rfl, (Off.alloc [] W _).trans (Off.drew [] _), heap_alloc_new W _⟩
  case rest =>
    obtain ⟨rfl, rfl, H⟩ := hcut
    clear hk hk2 g1 g2 e1 e2 hs
    obtain ⟨oc, hn⟩ := H.out
    obtain ⟨hBW, hN, hsW⟩ := HM.out
    have hBc : Below w.heap.size w wc := oc.below hBW (by simp) hBW.size
    have hNc := (oc.block w.heap.size (by omega) (by simp)).trans hN
    have k0 : wc.cell? ⟨w.heap.size, 0, none⟩ = some (.pointer none) := cell_of_row wc _ 0 _ _ _ hNc
    have k1 : wc.cell? ⟨w.heap.size, 1, none⟩ = some (.pointer none) := cell_of_row wc _ 1 _ _ _ hNc
    have f0 := frozen_of_row wc w.heap.size 0 _ _ hNc
    have f1 := frozen_of_row wc w.heap.size 1 _ _ hNc
    have n0 : wc.cell? ⟨W.heap.size, 0, none⟩ = some (.pointer xa) := cell_of_row wc _ 0 _ _ _ hn
    have n1 : wc.cell? ⟨W.heap.size, 1, none⟩ = some (.pointer xb) := cell_of_row wc _ 1 _ _ _ hn
    have ne : ¬ w.heap.size = W.heap.size := by omega
    have HF : Hid (Below w.heap.size w wc) := hBc
    clear oc hn hBW hN hBc hNc H HM
    clear hsW
    clear hsW
    generalize W.heap.size = M at *
    cases th with
    | false =>
      obtain ⟨rfl, rfl⟩ := hX0 rfl
      simp at hEE
      subst hEE
      go_wp2_with fail
      refine bodyPost_ret (v := .tuple #[.agg #[.pointer none, .pointer none], .int .i64 44]) (by simp [results, Tryz.results61, go_sem, k0, k1]) rfl ⟨rfl, ?_⟩
      exact (HF.out.setCell (Nat.le_refl _) _).setCell (Nat.le_refl _) _
    | true =>
      simp at hEE
      subst hEE
      go_wp2_with fail
      refine bodyPost_ret (v := .tuple #[.agg #[.pointer xa, .pointer xb], .int .i64 0]) (by simp [results, Tryz.results61, go_sem, k0, k1]) rfl ⟨rfl, ?_⟩
      exact (HF.out.setCell (Nat.le_refl _) _).setCell (Nat.le_refl _) _
end Go.Proofs.YtffehehghpafdaaGreat
namespace Go.Proofs.YtffehehghpafdaaGreat
set_option maxRecDepth 100000
open Go.RowKit Go.Maps
def pfE (L : List Prt) (bs : Nat → Nat) (len : Nat) : Int := if DE bs len ≠ 0 then DE bs len else if (fnd L (w4v bs 1)).isSome then 0 else 44
theorem sat_one (n : Nat) (h : n < 1000000) : sat n 1 = n + 1 := by unfold sat; rw [if_neg (by omega)]
theorem MX.lost {b : Nat} {L : List Prt} {lost l mb nn : Nat} {D : DataW Unit} {w : World} (h : MX w b L lost l mb nn D) : MX (w.setCell ⟨l, 0, none⟩ (.int .u64 ((lost + 1 : Nat) : Int))) b L (lost + 1) l mb nn D := by
  have o : Off [l] w (w.setCell ⟨l, 0, none⟩ (.int .u64 ((lost + 1 : Nat) : Int))) := Off.setCell l 0 w _
  have hbl : b ≠ l := fun e => by
    have h1 := h.blk
    rw [e, h.los.at_] at h1
    simp at h1
  exact ⟨(o.block b (h.lt b (by simp [MXU])) (by simpa using hbl)).trans h.blk, h.los.s0 _, ownsMap_off h.map o (by simpa using Ne.symm h.ne.2.1), h.nle, h.siz, h.at_, h.has_, h.key, fun p hp => ⟨(h.met p hp).1.off o (by simpa using (h.met p hp).2.1), (h.met p hp).2⟩, h.one⟩
theorem mport_lost (b : Nat) (L : List Prt) (lost : Nat) (V : List Nat) (a : Option Addr) (len cap : Nat) (bs : Nat → Nat) (w : World) (h : Mxx w b L lost V) (hr : Row8 w a len cap bs) (hE : pfE L bs len ≠ 0) :
    Calls Tryz.prog 61 #[.pointer (some ⟨b, 0, none⟩), .slice a len cap] w fun e w' => e = .returned (.tuple #[.agg #[.pointer none, .pointer none], .int .i64 (pfE L bs len)]) ∧ Below w.heap.size w w' := by
  by_cases hD : DE bs len = 0
  · have e1 : pfE L bs len = if (fnd L (w4v bs 1)).isSome then 0 else 44 := by unfold pfE; rw [if_neg (by omega)]
    have hn : fnd L (w4v bs 1) = none := by
      cases hq : fnd L (w4v bs 1) with
      | none => rfl
      | some q => rw [hq] at e1; exact absurd e1 hE
    obtain ⟨h1, h2, _, _⟩ := DE_zero hD
    have q := mport_ok b L lost V a len cap bs (w4v bs 1) w h hr hD rfl (w4v_lt fun j hj => hr.byte _ (by omega)) _ e1
    rw [show ptq (fndq L (w4v bs 1)) = .agg #[.pointer none, .pointer none] by unfold fndq; rw [hn]; rfl] at q
    exact q
  · have e1 : pfE L bs len = DE bs len := by unfold pfE; rw [if_pos hD]
    rw [e1]
    exact mport_no b a len cap bs w hr hD
theorem mrecv_nil (a : Option Addr) (len cap : Nat) (w : World) : Calls Tryz.prog 17 #[.pointer none, .slice a len cap] w fun e w' => e = .returned (.tuple #[.int .u32 0, .slice none 0 0, .int .i64 1]) ∧ w' = w := by
  go_enter Tryz.func17, Tryz.ntmps17
  go_wp2_with (go_at_call 55; refine (mnone_nil _).mono ?_; rintro e w' ⟨rfl, rfl⟩)
  refine bodyPost_ret (v := .tuple #[.int .u32 0, .slice none 0 0, .int .i64 1]) (by simp [results, Tryz.results17, go_sem]) rfl ⟨rfl, rfl⟩
set_option maxHeartbeats 1000000 in
theorem mrecv_lost (b : Nat) (L : List Prt) (lost : Nat) (V : List Nat) (a : Option Addr) (len cap : Nat) (bs : Nat → Nat) (w : World) (h : Mxx w b L lost V) (hr : Row8 w a len cap bs) (hE : pfE L bs len ≠ 0) (hl : lost < 1000000) :
    Calls Tryz.prog 17 #[.pointer (some ⟨b, 0, none⟩), .slice a len cap] w fun e w' => e = .returned (.tuple #[.int .u32 0, .slice none 0 0, .int .i64 (pfE L bs len)]) ∧ Hid (Off V w w' ∧ Mxx w' b L (lost + 1) V) := by
  have hP := mport_lost b L lost V a len cap bs w h hr hE
  obtain ⟨l, mb, nn, D, h, hV⟩ := h
  have hq := mnone_any b mb w h.c0
  have H : Hid (_) := And.intro h hV
  generalize pfE L bs len = E at *
  clear hr hV h
  go_enter Tryz.func17, Tryz.ntmps17
  go_wp2_with (first
    | (go_at_call 55; refine hq.mono ?_; rintro e w' ⟨rfl, hw⟩; have hw := hw.symm; subst hw)
    | (go_at_call 61; refine hP.mono ?_; rintro e w2 ⟨rfl, b2⟩; have h2 := (H.out.1.off (o := []) (Off.of_below b2) (by simp)).off (Off.alloc [] w2 (.cells #[.pointer none, .pointer none] 122)) (by simp); have c1 := h2.c1; have H2 : Hid (_) := And.intro b2 h2; have hA := add_any lost 1 l none none 0 0 _ (by omega) (by omega) h2.los; rw [sat_one lost hl] at hA; clear hP b2 h2)
    | (go_at_call 62; refine hA.mono ?_; rintro e w3 ⟨rfl, hw⟩; have hw := hw.symm; subst hw))
  refine bodyPost_ret (v := .tuple #[.int .u32 0, .slice none 0 0, .int .i64 E]) (by simp [results, Tryz.results17, go_sem]) rfl ⟨rfl, ?_⟩
  have e3 := H2.out.2.lost
  rw [show ((lost + 1 : Nat) : Int) = (lost : Int) + 1 by omega] at e3
  refine ⟨((Off.of_below H2.out.1).trans (Off.alloc V w2 _)).trans ((Off.setCell l 0 _ _).more (fun k hk => by simp at hk; subst hk; rw [H.out.2]; simp [MXU])), l, mb, nn, D, e3, H.out.2⟩
def bump (L : List Prt) (c : Nat) : List Prt := L.map fun q => if q.c = c then { q with n := q.n + 1 } else q
theorem fnd_bump (L : List Prt) (c x : Nat) : fnd (bump L c) x = (fnd L x).map fun q => if q.c = c then { q with n := q.n + 1 } else q := by
  induction L with
  | nil => rfl
  | cons q L ih =>
    simp only [bump, List.map_cons, fnd] at ih ⊢
    by_cases e : q.c = c
    · rw [if_pos e]
      by_cases e2 : q.c = x
      · simp [e2, e2 ▸ e]
      · simp [e2, ih]
    · rw [if_neg e]
      by_cases e2 : q.c = x
      · simp [e2, e2 ▸ e]
      · simp [e2, ih]
theorem fndq_bump (L : List Prt) (c x : Nat) : fndq (bump L c) x = fndq L x := by
  unfold fndq
  rw [fnd_bump]
  cases fnd L x with
  | none => rfl
  | some q => simp; split <;> simp
theorem MXU_bump (L : List Prt) (c b l mb : Nat) : MXU (bump L c) b l mb = MXU L b l mb := by
  unfold MXU bump
  simp
  intro q _
  split <;> rfl
theorem MX.bump {b : Nat} {L : List Prt} {lost l mb nn : Nat} {D : DataW Unit} {w : World} (h : MX w b L lost l mb nn D) (p : Prt) (hp : p ∈ L) : MX (w.setCell ⟨p.k, 0, none⟩ (.int .u64 ((p.n + 1 : Nat) : Int))) b (bump L p.c) lost l mb nn D := by
  have o : Off [p.k] w (w.setCell ⟨p.k, 0, none⟩ (.int .u64 ((p.n + 1 : Nat) : Int))) := Off.setCell p.k 0 w _
  have hbl : b ≠ p.k := fun e => by
    have h1 := h.blk
    rw [e, (h.met p hp).1.at_] at h1
    simp at h1
  have hone : ∀ q, q ∈ L → q.c ≠ p.c → q.k ≠ p.k := fun q hq hne => by
    rcases List.pairwise_iff_getElem.1 h.one with hh
    obtain ⟨i, hi, rfl⟩ := List.getElem_of_mem hp
    obtain ⟨j, hj, rfl⟩ := List.getElem_of_mem hq
    rcases Nat.lt_trichotomy i j with hij | hij | hij
    · exact Ne.symm (hh i j hi hj hij).2
    · subst hij; exact absurd rfl hne
    · exact (hh j i hj hi hij).2
  have huni : ∀ q, q ∈ L → q.c = p.c → q = p := fun q hq he => by
    rcases List.pairwise_iff_getElem.1 h.one with hh
    obtain ⟨i, hi, rfl⟩ := List.getElem_of_mem hp
    obtain ⟨j, hj, rfl⟩ := List.getElem_of_mem hq
    rcases Nat.lt_trichotomy i j with hij | hij | hij
    · exact absurd he.symm (hh i j hi hj hij).1
    · subst hij; rfl
    · exact absurd he (hh j i hj hi hij).1
  refine ⟨(o.block b (h.lt b (by simp [MXU])) (by simpa using hbl)).trans h.blk, h.los.off o (by simpa using Ne.symm (h.met p hp).2.1), ownsMap_off h.map o (by simpa using Ne.symm (h.ne.2.2 p hp)), ?_, ?_, fun c hc => ?_, fun c hc => ?_, fun c hc => ?_, fun q hq => ?_, ?_⟩
  · simpa [Go.Proofs.YtffehehghpafdaaGreat.bump] using h.nle
  · simpa [Go.Proofs.YtffehehghpafdaaGreat.bump] using h.siz
  · rw [fndq_bump]; exact h.at_ c hc
  · rw [fnd_bump]; simpa using h.has_ c hc
  · obtain ⟨q, hq, e⟩ := h.key c hc
    exact ⟨_, List.mem_map.2 ⟨q, hq, rfl⟩, by split <;> simpa using e⟩
  · obtain ⟨q, hq', rfl⟩ := List.mem_map.1 hq
    by_cases e : q.c = p.c
    · have e2 := huni q hq' e
      subst e2
      rw [if_pos rfl]
      exact ⟨(h.met q hp).1.s0 _, (h.met q hp).2⟩
    · rw [if_neg e]
      exact ⟨(h.met q hq').1.off o (by simpa using hone q hq' e), (h.met q hq').2⟩
  · unfold Go.Proofs.YtffehehghpafdaaGreat.bump
    rw [List.pairwise_map]
    refine h.one.imp fun {x y} hxy => ?_
    split <;> split <;> exact hxy
theorem DV.offM {w w' : World} {d m g n mx : Nat} {P : Pm} {U l : List Nat} {s : Sd} (h : DV w d m g n mx P U s) (q : Off l w w') (hl : ∀ k, k ∈ U → k ∉ l) : DV w' d m g n mx P U s := by
  obtain ⟨B, h⟩ := h
  exact ⟨B, ⟨(q.block d h.dlt (hl _ h.kd.2)).trans h.dev, h.mem.off q (hl _ h.km.2) (hl _ h.kg.2), fun hs => ⟨(h.cel hs).1, (h.cel hs).2.1.off q (hl _ h.kc.2), (h.cel hs).2.2⟩, h.dog.off q (hl _ h.kb.2), h.val.off q (hl _ h.kv.2) (hl _ h.kw.2) (fun k hk hM => hl k (h.kM k hM).2 hk), h.log.off q (fun k hk => hl _ (h.kl k hk).2), own_offk h.app q (fun k hk => hl _ (h.ka k hk).2), h.apb, fun k hk => Nat.lt_of_lt_of_le (h.ltU k hk) q.size, h.kd, h.km, h.kg, h.kc, h.kb, h.kv, h.kw, h.kM, h.kl, h.ka, h.pok, h.n10, h.mx0, h.mxl⟩⟩
theorem mrecv_end {w w2 W w4 : World} {d m g n mx : Nat} {P : Pm} {U : List Nat} {s : Sd} {f : Fm} {v p q : Value} (hU : ∀ k, k ∈ U → k < w.heap.size) (b2 : Below w.heap.size w w2) (hn : W.heap[w2.heap.size]? = some (.cells #[p, q] 122 (0, 0))) (h : Out U W w4 d m g n mx P s f v) :
    w4.cell? ⟨d, 0, none⟩ = some (.int .u32 (P.c : Nat)) ∧ w4.cell? ⟨w2.heap.size, 0, none⟩ = some p := by
  obtain ⟨U', G, ⟨B, x⟩, _, _⟩ := h
  refine ⟨x.cells.1, ?_⟩
  have := b2.size
  have hl : w2.heap.size < W.heap.size := (Array.getElem?_eq_some_iff.1 hn).1
  exact cell_of_row w4 _ 0 _ _ _ ((G.off.block w2.heap.size hl (fun hm => by have := hU _ hm; omega)).trans hn)
set_option maxHeartbeats 2000000 in
theorem mrecv_any (b : Nat) (L : List Prt) (lost : Nat) (V : List Nat) (p : Prt) (m g n mx : Nat) (P : Pm) (U : List Nat) (s : Sd) (a : Option Addr) (len cap : Nat) (bs : Nat → Nat) (w : World) (h : Mxx w b L lost V) (hD : DV w p.d m g n mx P U s) (hUV : ∀ k, k ∈ U → k ∉ V) (hr : Row8 w a len cap bs) (hE : DE bs len = 0) (hf : fnd L (w4v bs 1) = some p) (hP : P.c = p.c) (hpn : p.n < 1000000) (hsn : s.st = 4 → s.sn + 1 < 4294967296) (ho : s.od < 4) (hL : s.L.length < 800000) (ht : s.ms.t < 9223372036854774000) (hra : ∀ x, a = some x → x.block ∉ V) :
    Calls Tryz.prog 17 #[.pointer (some ⟨b, 0, none⟩), .slice a len cap] w fun e w' => ∃ v, e = .returned (.tuple #[.int .u32 (p.c : Nat), v, .int .i64 (drecv P mx n s len bs).e]) ∧ Hid (∃ w1, Off V w w1 ∧ DV w1 p.d m g n mx P U s ∧ Out U w1 w' p.d m g n mx P (drecv P mx n s len bs).s (drecv P mx n s len bs).f v ∧ Mxx w' b (bump L p.c) lost V ∧ Mxx w1 b (bump L p.c) lost V) := by
  obtain ⟨h1, h2, _, _⟩ := DE_zero hE
  have hQ := mport_ok b L lost V a len cap bs (w4v bs 1) w h hr hE rfl (w4v_lt fun j hj => hr.byte _ (by omega)) 0 (by rw [hf]; rfl)
  rw [show ptq (fndq L (w4v bs 1)) = .agg #[.pointer (some ⟨p.d, 0, none⟩), .pointer (some ⟨p.k, 0, none⟩)] by unfold fndq; rw [hf]; rfl] at hQ
  obtain ⟨l, mb, nn, D, h, hV⟩ := h
  have hpL := (fnd_mem hf).1
  have hq := mnone_any b mb w h.c0
  have hpV : p.k ∈ V := by rw [hV]; simp [MXU]; exact .inr (.inr (.inr ⟨p, hpL, rfl⟩))
  have oV : ∀ w2, Below w.heap.size w w2 → Off V w ((w2.alloc (.cells #[.pointer (some ⟨p.d, 0, none⟩), .pointer (some ⟨p.k, 0, none⟩)] 122)).setCell ⟨p.k, 0, none⟩ (.int .u64 ((p.n + 1 : Nat) : Int))) := fun w2 b2 => ((Off.of_below b2).trans (Off.alloc V w2 _)).trans ((Off.setCell p.k 0 _ _).more (fun k hk => by simp at hk; subst hk; exact hpV))
  have hT : ∀ w2, Below w.heap.size w w2 → ∃ W, W = (w2.alloc (.cells #[.pointer (some ⟨p.d, 0, none⟩), .pointer (some ⟨p.k, 0, none⟩)] 122)).setCell ⟨p.k, 0, none⟩ (.int .u64 ((p.n + 1 : Nat) : Int)) ∧ Off V w W ∧ DV W p.d m g n mx P U s ∧ MX W b (bump L p.c) lost l mb nn D ∧ Row8 W a len cap bs ∧ W.heap[w2.heap.size]? = some (.cells #[.pointer (some ⟨p.d, 0, none⟩), .pointer (some ⟨p.k, 0, none⟩)] 122 (0, 0)) := by
    intro w2 b2
    refine ⟨_, rfl, ?_, ?_, ?_, ?_, ?_⟩
    · exact oV w2 b2
    · exact hD.offM (oV w2 b2) hUV
    · exact ((h.off (o := []) (Off.of_below b2) (by simp)).off (Off.alloc [] w2 _) (by simp)).bump p hpL
    · exact hr.off (oV w2 b2) hra
    · have hpl := h.lt p.k (hV ▸ hpV)
      have := b2.size
      exact ((Off.setCell p.k 0 (w2.alloc (.cells #[.pointer (some ⟨p.d, 0, none⟩), .pointer (some ⟨p.k, 0, none⟩)] 122)) (.int .u64 ((p.n + 1 : Nat) : Int))).block w2.heap.size (by simp) (by simp; omega)).trans (heap_alloc_new w2 _)
  have hC0 := fun w2 b2 => (h.off (o := []) (Off.of_below (w' := w2) b2) (by simp)).off (Off.alloc [] w2 (.cells #[.pointer (some ⟨p.d, 0, none⟩), .pointer (some ⟨p.k, 0, none⟩)] 122)) (by simp)
  have hUl : ∀ k, k ∈ U → k < w.heap.size := fun k hk => hD.ult k hk
  have hVl : ∀ k, k ∈ V → k < w.heap.size := fun k hk => h.lt k (hV ▸ hk)
  have H : Hid (_) := And.intro hT (And.intro hC0 (And.intro hpL (And.intro hV (And.intro hUV (And.intro hP (And.intro hsn (And.intro ho (And.intro hL (And.intro ht (And.intro hUl hVl))))))))))
  clear hT hC0 hV hUV hP hsn ho hL ht h hr hra hD hE hf oV h1 h2 hpV hUl hVl hpL
  go_enter Tryz.func17, Tryz.ntmps17
  go_upto_region 3 with (go_at_call 55; refine hq.mono ?_; rintro e w' ⟨rfl, hw⟩; have hw := hw.symm; subst hw)
  go_wp2_with (first
    | (go_at_call 61; refine hQ.mono ?_; rintro e w2 ⟨rfl, b2⟩; have hM2 := H.out.2.1 w2 b2; have hA := add_any p.n 1 p.k none none 0 0 _ (by omega) (by omega) (hM2.met p H.out.2.2.1).1; rw [sat_one p.n hpn] at hA; obtain ⟨W, hW, hX⟩ := H.out.1 w2 b2; rw [← hW] at hA; have HX : Hid (_) := And.intro b2 hX; have q0 : W.cell? ⟨w2.heap.size, 0, none⟩ = some (.pointer (some ⟨p.d, 0, none⟩)) := cell_of_row W _ 0 _ _ _ hX.2.2.2.2; have hR := receive4_any p.d m g n mx P U s a len cap bs W hX.2.1 hX.2.2.2.1 H.out.2.2.2.2.2.2.1 H.out.2.2.2.2.2.2.2.1 H.out.2.2.2.2.2.2.2.2.1 H.out.2.2.2.2.2.2.2.2.2.1; clear hM2 hX hW hQ hq b2)
    | (go_at_call 62; refine hA.mono ?_; rintro e w3 ⟨rfl, hw⟩; have hw := hw.symm; subst hw; clear hA)
    | (go_at_call 18; refine hR.mono ?_; rintro e w4 ⟨v, rfl, h4⟩; obtain ⟨cd, q1⟩ := mrecv_end H.out.2.2.2.2.2.2.2.2.2.2.1 HX.out.1 HX.out.2.2.2.2.2 h4.out; have hC := mcode_any p.d P.c w4 cd; clear cd hR)
    | (go_at_call 63; refine hC.mono ?_; rintro e w5 ⟨rfl, hw⟩; have hw := hw.symm; subst hw; clear hC))
  refine bodyPost_ret (v := .tuple #[.int .u32 (P.c : Nat), v, .int .i64 (drecv P mx n s len bs).e]) (by simp [results, Tryz.results17, go_sem]) rfl ?_
  obtain ⟨b2, o1, D1, M1, r1, n1⟩ := HX.out
  refine ⟨v, by rw [H.out.2.2.2.2.2.1], W, o1, D1, h4.out, ?_⟩
  obtain ⟨U', G, _⟩ := h4.out
  refine ⟨⟨l, mb, nn, D, M1.off G.off (fun k hk hm => ?_), by rw [MXU_bump]; exact H.out.2.2.2.1⟩, ⟨l, mb, nn, D, M1, by rw [MXU_bump]; exact H.out.2.2.2.1⟩⟩
  rw [MXU_bump, ← H.out.2.2.2.1] at hk
  exact H.out.2.2.2.2.1 k hm hk
end Go.Proofs.YtffehehghpafdaaGreat
namespace Go.Proofs.YtffehehghpafdaaGreat
set_option maxRecDepth 100000
open Go.RowKit
def dvT (x : Dr) (U : List Nat) : Thing := ⟨U, fun w => DV w x.d x.m x.g x.n x.mx x.P U x.s, fun _ _ _ h o hl => DV.off h o hl⟩
def rwT (x : Dr) (U : List Nat) : Thing := ⟨U, fun w => RW w x.d x.m x.g x.n x.mx x.P U x.s, fun _ _ _ h o hl => RW.off h o hl⟩
theorem Mxx.off {w w' : World} {b : Nat} {L : List Prt} {lost : Nat} {V l : List Nat} (h : Mxx w b L lost V) (o : Off l w w') (hl : ∀ k, k ∈ V → k ∉ l) : Mxx w' b L lost V := by
  obtain ⟨l, mb, nn, D, h, e⟩ := h
  subst e
  exact ⟨l, mb, nn, D, h.off o hl, rfl⟩
theorem Mxx.lt {w : World} {b : Nat} {L : List Prt} {lost : Nat} {V : List Nat} (h : Mxx w b L lost V) : ∀ k, k ∈ V → k < w.heap.size := by
  obtain ⟨l, mb, nn, D, h, e⟩ := h
  subst e
  exact h.lt
def mxT (b : Nat) (L : List Prt) (lost : Nat) (V : List Nat) : Thing := ⟨V, fun w => Mxx w b L lost V, fun _ _ _ h o hl => h.off o hl⟩
def r8T (a : Option Addr) (len cap : Nat) (bs : Nat → Nat) : Thing := ⟨a.toList.map (·.block), fun w => Row8 w a len cap bs, fun _ _ _ h o hl => h.off o (fun x hx => hl _ (by rw [hx]; simp))⟩
section
variable {w0 w w' : World} {t : Nat → Thing} {i : Nat}
theorem Al.dv (h : Al w0 w t) {x : Dr} {U : List Nat} (e : t i = dvT x U) : DV w x.d x.m x.g x.n x.mx x.P U x.s := h.get e
theorem Al.rw (h : Al w0 w t) {x : Dr} {U : List Nat} (e : t i = rwT x U) : RW w x.d x.m x.g x.n x.mx x.P U x.s := h.get e
theorem Al.mx (h : Al w0 w t) {b : Nat} {L : List Prt} {lost : Nat} {V : List Nat} (e : t i = mxT b L lost V) : Mxx w b L lost V := h.get e
theorem Al.stepD (h : Al w0 w t) {x : Dr} {U U' : List Nat} (e : t i = dvT x U) (g : Gr U w U' w') {s' : Sd} (hx : DV w' x.d x.m x.g x.n x.mx x.P U' s') : Al w0 w' (putT t i (dvT { x with s := s' } U')) :=
  h.step i (dvT { x with s := s' } U') (by rw [e]; rfl) g hx (fun k hk => hx.ult k hk)
theorem Al.stepR (h : Al w0 w t) {x : Dr} {U U' : List Nat} (e : t i = rwT x U) (g : Gr U w U' w') {s' : Sd} (hx : RW w' x.d x.m x.g x.n x.mx x.P U' s') : Al w0 w' (putT t i (rwT { x with s := s' } U')) :=
  h.step i (rwT { x with s := s' } U') (by rw [e]; rfl) g hx (fun k hk => hx.ult k hk)
theorem Al.apart (h : Al w0 w t) {j : Nat} (hij : i ≠ j) {x y : Thing} (ei : t i = x) (ej : t j = y) : ∀ k, k ∈ x.U → k ∉ y.U := by
  subst ei; subst ej
  exact h.dis i j hij
end
def Pl.dr (L : Pl) (s : Sd) : Dr := ⟨L.d, L.m, L.g, L.n, L.mx, L.P, s⟩
def Pl.rr (L : Pl) (s : Sd) : Dr := ⟨L.e, L.r, L.q, L.n, L.mx, L.P, s⟩
theorem Al.two {w0 w w' : World} {t : Nat → Thing} (h : Al w0 w t) {L : Pl} {s : Sd} (T : Two w w' L s) (i j : Nat) : ∃ U V, Al w0 w' (putT (putT t i (dvT (L.dr s) U)) j (rwT (L.rr s) V)) := by
  obtain ⟨U, V, T⟩ := T
  have h1 := h.below T.bel
  have sz := T.bel.size
  have s0 := h.size
  have hn : ∀ k, w.heap.size ≤ k → ∀ j, k ∉ (t j).U := fun k hk j hm => by have := (h.lt j k hm).2; omega
  have h2 : Al w0 w' (putT t i (dvT (L.dr s) U)) := h1.turn i _ (Off.refl _ _) T.dv (fun k hk => ⟨by have := (T.uv k hk).1; omega, T.dv.ult k hk⟩) (fun k hk j _ => hn k (T.uv k hk).1 j)
  refine ⟨U, V, h2.turn j _ (Off.refl _ _) T.rw (fun k hk => ⟨by have := T.vb k hk; omega, T.rw.ult k hk⟩) (fun k hk q _ hm => ?_)⟩
  by_cases e : q = i
  · subst e
    rw [putT_same] at hm
    exact (T.uv k hm).2 hk
  · rw [putT_ne _ _ e] at hm
    exact hn k (T.vb k hk) q hm
end Go.Proofs.YtffehehghpafdaaGreat
