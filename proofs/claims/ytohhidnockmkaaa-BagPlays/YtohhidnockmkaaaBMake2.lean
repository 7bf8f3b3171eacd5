/- The document's Make; both Turns. -/
import Derived.Test.YtohhidnockmkaaaBMake
import Derived.Test.YtohhidnockmkaaaRefs
namespace Go.Proofs.Ytohhidnockmkaaa
open Go.RowKit
set_option maxHeartbeats 400000 in
theorem refMake_bad (n at_ : Int) (x : Nat) (w : World) (hx : x < 4294967296) (hn : -9223372036854775808 ≤ n ∧ n < 9223372036854775808) (ha : -9223372036854775808 ≤ at_ ∧ at_ < 9223372036854775808) (h : mkErr n at_ x ≠ 0) :
    Calls Try.prog 30 #[.int .i64 n, .int .i64 at_, .int .u32 x] w fun e w' => e = .returned (.tuple #[.slice none 0 0, .int .i64 (mkErr n at_ x)]) ∧ w' = w := by
  have hL := refDegree_any x w (by omega)
  have hbl := PM.bl_le (n := x) (k := 32) (by omega)
  rcases mkErr_cases h with h1 | ⟨h1, h2⟩
  · rw [mkErr_range h1]
    clear h hL
    by_cases hn0 : n < 0
    · go_enter Try.func30, Try.ntmps30
      go_wp2
      go_ret2
      exact ⟨rfl, rfl⟩
    · have hn1 : 65536 < n := by omega
      clear h1
      go_enter Try.func30, Try.ntmps30
      go_wp2
      go_ret2
      exact ⟨rfl, rfl⟩
  · rw [mkErr_burst h1 h2]
    have hn0 : 0 ≤ n := by omega
    have hn1 : n ≤ 65536 := by omega
    clear h h1
    by_cases hx0 : x = 0
    · subst hx0
      clear h2
      rw [PM.bl_zero] at hL
      go_enter Try.func30, Try.ntmps30
      go_wp2_with (go_at_call 43; refine hL.mono ?_; rintro e w' ⟨rfl, rfl⟩)
      go_ret2
      exact ⟨rfl, rfl⟩
    · have hpos : 0 < PM.bl x := by rw [PM.bl_pos hx0]; omega
      generalize PM.bl x = s at *
      have hs0 : ((s : Int) == 0) = false := by simp; omega
      have hs1 : (s : Int) - 1 + 1 = (s : Int) := by omega
      by_cases ha0 : at_ < 0
      · clear h2
        go_enter Try.func30, Try.ntmps30
        go_wp2_with (go_at_call 43; refine hL.mono ?_; rintro e w' ⟨rfl, rfl⟩)
        go_ret2
        exact ⟨rfl, rfl⟩
      · by_cases hg2 : 8 * n < at_
        · clear h2
          go_enter Try.func30, Try.ntmps30
          go_wp2_with (go_at_call 43; refine hL.mono ?_; rintro e w' ⟨rfl, rfl⟩)
          go_ret2
          exact ⟨rfl, rfl⟩
        · have hg : 8 * n < at_ + (s : Int) := by omega
          clear h2
          go_enter Try.func30, Try.ntmps30
          go_wp2_with (go_at_call 43; refine hL.mono ?_; rintro e w' ⟨rfl, rfl⟩)
          go_ret2
          exact ⟨rfl, rfl⟩
theorem pow7B (k : Nat) : (128 : Int) / 2 ^ (k % 8) = ((2 ^ (7 - k % 8) : Nat) : Int) := by
  have h : ∀ z : Fin 8, (128 : Int) / 2 ^ z.val = ((2 ^ (7 - z.val) : Nat) : Int) := by decide
  exact h ⟨k % 8, by omega⟩
theorem and32B (x k : Nat) (hx : x < 4294967296) : (bits .and .u32 ((x : Int) / 2 ^ k) 1 != 0) = x.testBit k := by
  have e : (x : Int) / 2 ^ k = ((x >>> k : Nat) : Int) := by rw [Nat.shiftRight_eq_div_pow]; simp
  have hl : x >>> k < 4294967296 := by rw [Nat.shiftRight_eq_div_pow]; exact Nat.lt_of_le_of_lt (Nat.div_le_self _ _) hx
  have h := u32_and_nat (x >>> k) 1 hl (by omega)
  rw [nat_mask1, shr_bit] at h
  have h' : bits .and .u32 ((x >>> k : Nat) : Int) 1 = ((x.testBit k).toNat : Int) := h
  rw [e, h']
  cases x.testBit k <;> rfl
set_option maxRecDepth 100000 in
set_option maxHeartbeats 1000000 in
theorem refMake_good (n at_ x : Nat) (w : World) (hx : x < 4294967296) (hx0 : x ≠ 0) (hn : n ≤ 65536) (hfit : at_ + PM.bl x ≤ 8 * n) :
    Calls Try.prog 30 #[.int .i64 n, .int .i64 at_, .int .u32 x] w fun e w' => ∃ v, e = .returned (.tuple #[v, .int .i64 0]) ∧ Hid (Below w.heap.size w w' ∧ Made w.heap.size w' n at_ x v) := by
  obtain ⟨i0, hi, hz0, hz1, hz2⟩ := info_parts info_u8
  have hL := refDegree_any x w (by omega)
  have hbl := PM.bl_le (n := x) (k := 32) (by omega)
  have hbit := fun k => and32B x k hx
  have hpos : 0 < PM.bl x := by rw [PM.bl_pos hx0]; omega
  have hs0 : ((PM.bl x : Int) == 0) = false := by simp; omega
  have hs1 : (PM.bl x : Int) - 1 + 1 = (PM.bl x : Int) := by omega
  have hd1 : decide ((8 : Int) * (n : Int) < (at_ : Int)) = false := by simp; omega
  have hd2 : decide ((8 : Int) * (n : Int) < (at_ : Int) + (PM.bl x : Int)) = false := by simp; omega
  unfold Made
  generalize PM.bl x = s at *
  go_enter Try.func30, Try.ntmps30
  go_wp2_with (first | (go_at_call 43; refine hL.mono ?_; rintro e w ⟨rfl, rfl⟩) | (at_make; refine wpList_make8 _ rfl (.tmp 42) (.tmp 42) 31 rfl w.heap.size 5 i0 Try.underlying31 hi hz0 hz1 hz2 _ _ _ _ n n rfl rfl rfl rfl (Nat.le_refl _) (by omega) (Nat.le_refl _) ?_))
  intro w1 hown1 hbel1
  clear hL
  go_wp2_with fail
  go_loopw [10, 11] (fun c _ wr => ∃ i f, i ≤ s ∧ c = .int .i64 ((i : Nat) : Int) ∧ wr.ownsRow w.heap.size 5 1 (.slice (some ⟨w.heap.size, 0, none⟩) n n) n (CB f n) ∧ (∀ i, i < n → f i < 256) ∧ (∀ k, PM.fb f k = PM.ly at_ s x i k) ∧ Below w.heap.size w wr) (fun c _ _ => s - (intOf c).toNat)
  case atStart => exact ⟨0, fun _ => 0, by omega, rfl, hown1, fun i _ => by show 0 < 256; omega, fun k => by rw [PM.ly_zero]; unfold PM.fb; exact Nat.zero_testBit _, hbel1⟩
  case round =>
    clear hown1 hbel1
    obtain ⟨i, f, hi2, rfl, hown, hfb, hfV, hbel⟩ := hrel
    have HV : Hid (∀ k, PM.fb f k = PM.ly at_ s x i k) := hfV
    have HO : Hid (_) := And.intro hown (And.intro hfb hbel)
    clear hfV
    by_cases hlt : i < s
    · have t1 := hbit (s - 1 - i)
      clear hbit
      have HS : Hid (∀ j, PM.ly at_ s x (i + 1) j = (PM.ly at_ s x i j || (decide (j = at_ + i) && x.testBit (s - 1 - i)))) := fun j => PM.ly_succ at_ s x i j
      cases hb : x.testBit (s - 1 - i)
      · rw [hb] at t1
        have HV2 : Hid (∀ j, PM.fb f j = PM.ly at_ s x (i + 1) j) := fun j => by rw [HV.out, HS.out, hb, Bool.and_false, Bool.or_false]
        clear hown hfb hbel HS HV
        go_wp2
        go_roundw
        case rel => exact ⟨i + 1, f, by omega, by go_num, HO.out.1, HO.out.2.1, HV2.out, HO.out.2.2⟩
        case measure => simp [intOf] <;> omega
      · rw [hb] at t1
        obtain ⟨k, hk⟩ : ∃ k, k = at_ + i := ⟨_, rfl⟩
        have hk1 : (at_ : Int) + (i : Int) = (k : Int) := by omega
        obtain ⟨q, hq⟩ : ∃ q, q = k / 8 := ⟨_, rfl⟩
        obtain ⟨m, hm⟩ : ∃ m, m = k % 8 := ⟨_, rfl⟩
        have hq1 : (k : Int) / 8 = (q : Int) := by omega
        have hm1 : (k : Int) % 8 = (m : Int) := by omega
        have hq2 : (k : Int).tdiv 8 = (q : Int) := by rw [Int.tdiv_eq_ediv_of_nonneg (by omega)]; exact hq1
        have hm2 : (k : Int).tmod 8 = (m : Int) := by rw [Int.tmod_eq_emod_of_nonneg (by omega)]; exact hm1
        have hp : (128 : Int) / 2 ^ m = ((2 ^ (7 - m) : Nat) : Int) := by rw [hm]; exact pow7B k
        have hql : q < n := by omega
        have hm8 : m < 8 := by omega
        have hcx := hown.cellAt q (by omega)
        rw [CB_get _ n _ hql] at hcx
        have hfx := hown.frozenAt q
        have hfq := hfb q hql
        obtain ⟨z, hz⟩ : ∃ z, z = 2 ^ (7 - m) := ⟨_, rfl⟩
        rw [← hz] at hp
        have hzl : z < 256 := by
          have h1 : 2 ^ (7 - m) ≤ 2 ^ 7 := Nat.pow_le_pow_right (by omega) (by omega)
          rw [hz]; omega
        have hor := u8_or_nat (f q) z hfq hzl
        obtain ⟨y, hy⟩ : ∃ y, y = f q ||| z := ⟨_, rfl⟩
        rw [← hy] at hor
        have hol : ∀ j, (if j = q then y else f j) = PM.ol f k true j := fun j => by
          unfold PM.ol; rw [hy, hz, hq, hm, Bool.toNat_true, Nat.one_mul]
        have HO2 : Hid ((wr.drew.setCell ⟨w.heap.size, q, none⟩ (.int .u8 ((y : Nat) : Int))).ownsRow w.heap.size 5 1 (.slice (some ⟨w.heap.size, 0, none⟩) n n) n (CB (PM.ol f k true) n) ∧ (∀ i, i < n → PM.ol f k true i < 256) ∧ (∀ j, PM.fb (PM.ol f k true) j = PM.ly at_ s x (i + 1) j) ∧ Below w.heap.size w (wr.drew.setCell ⟨w.heap.size, q, none⟩ (.int .u8 ((y : Nat) : Int)))) := by
          refine ⟨?_, PM.ol_lt HO.out.2.1 k true (by omega), fun j => ?_, HO.out.2.2.drew.setCell (p := ⟨w.heap.size, q, none⟩) (Nat.le_refl _) _⟩
          · have h := ((show wr.drew.ownsRow w.heap.size 5 1 (.slice (some ⟨w.heap.size, 0, none⟩) n n) n (CB f n) from HO.out.1).stored q (.int .u8 ((y : Nat) : Int))).1
            rw [CB_set, CB_congr _ (PM.ol f k true) n (fun i _ => hol i)] at h
            exact h
          · rw [PM.ol_fb, HV.out, HS.out, hk, hb]
        clear hk hq hm hz hol HV HO HS hy hown hfb hbel
        generalize f q = g at *
        go_wp2_with fail
        go_region
        all_goals (go_wp2_with fail; go_roundw)
        case rel => exact ⟨i + 1, PM.ol f k true, by omega, by go_num, HO2.out.1, HO2.out.2.1, HO2.out.2.2.1, HO2.out.2.2.2⟩
        case measure => simp [intOf] <;> omega
    · obtain rfl : i = s := by omega
      clear hbit hown hfb hbel
      go_wp2
      go_ret2
      exact ⟨_, rfl, HO.out.2.2, f, HO.out.1, HO.out.2.1, fun k _ => HV.out k⟩
/-- Byte for byte turned. -/
def xr (f g : Nat → Nat) (i : Nat) : Nat := f i ^^^ g i
theorem xr_lt {f g : Nat → Nat} {n : Nat} (hf : ∀ i, i < n → f i < 256) (hg : ∀ i, i < n → g i < 256) : ∀ i, i < n → xr f g i < 256 := fun i hi => PM.xor_lt8 (hf i hi) (hg i hi)
set_option maxHeartbeats 400000 in
theorem turn_bad (a0 a1 : Option Addr) (n0 n1 c0 c1 : Nat) (w : World) (h : n0 ≠ n1) :
    Calls Try.prog 29 #[.slice a0 n0 c0, .slice a1 n1 c1] w fun e w' => e = .returned (.tuple #[.slice none 0 0, .int .i64 31]) ∧ w' = w := by
  have hne : ((n0 : Int) != (n1 : Int)) = true := by simp; omega
  go_enter Try.func29, Try.ntmps29
  go_wp2
  go_ret2
  exact ⟨rfl, rfl⟩
set_option maxRecDepth 100000 in
set_option maxHeartbeats 1000000 in
theorem turn_good (a0 a1 : Option Addr) (n c0 c1 : Nat) (f g : Nat → Nat) (w : World) (r0 : Row8 w a0 n c0 f) (r1 : Row8 w a1 n c1 g) (hn : n ≤ 1000000) :
    Calls Try.prog 29 #[.slice a0 n c0, .slice a1 n c1] w fun e w' => ∃ c, e = .returned (.tuple #[.slice (some ⟨w.heap.size, 0, none⟩) n c, .int .i64 0]) ∧ Hid (Below w.heap.size w w' ∧ w'.ownsRow w.heap.size 5 1 (.slice (some ⟨w.heap.size, 0, none⟩) n c) n (CB (xr f g) n)) := by
  obtain ⟨i0, hi, hz0, hz1, hz2⟩ := info_parts info_u8
  have hne : ((n : Int) != (n : Int)) = false := by simp
  go_enter Try.func29, Try.ntmps29
  go_wp2_with (at_make; refine wpList_make8 _ rfl (.tmp 15) (.tmp 15) 31 rfl w.heap.size 5 i0 Try.underlying31 hi hz0 hz1 hz2 _ _ _ _ n n rfl rfl rfl rfl (Nat.le_refl _) (by omega) (Nat.le_refl _) ?_)
  intro w1 hown1 hbel1
  go_wp2_with fail
  go_loopw [7, 8, 19] (fun _ _ c wr => ∃ i h, i ≤ n ∧ c = .int .i64 ((i : Nat) : Int) ∧ wr.ownsRow w.heap.size 5 1 (.slice (some ⟨w.heap.size, 0, none⟩) n n) n (CB h n) ∧ (∀ j, j < i → h j = xr f g j) ∧ Below w.heap.size w wr) (fun _ _ c _ => n - (intOf c).toNat)
  case atStart => exact ⟨0, fun _ => 0, by omega, rfl, hown1, fun j hj => by omega, hbel1⟩
  case round =>
    clear hown1 hbel1
    obtain ⟨i, h, hi2, rfl, hown, hh, hbel⟩ := hrel
    by_cases hlt : i < n
    · obtain ⟨b0, o0, rfl, hb0, q0⟩ := r0.plain (by omega)
      obtain ⟨b1, o1, rfl, hb1, q1⟩ := r1.plain (by omega)
      obtain ⟨l0, s0⟩ := q0 i hlt
      obtain ⟨l1, s1⟩ := q1 i hlt
      have d0 := (hbel.cell (p := ⟨b0, o0 + i, none⟩) hb0).trans s0
      have d1 := (hbel.cell (p := ⟨b1, o1 + i, none⟩) hb1).trans s1
      have hcx := hown.cellAt i (by omega)
      rw [CB_get _ n _ hlt] at hcx
      have hfx := hown.frozenAt i
      have hX := u8_xor_nat (f i) (g i) l0 l1
      have HO : Hid ((wr.setCell ⟨w.heap.size, i, none⟩ (.int .u8 ((f i ^^^ g i : Nat) : Int))).ownsRow w.heap.size 5 1 (.slice (some ⟨w.heap.size, 0, none⟩) n n) n (CB (fun j => if j = i then f i ^^^ g i else h j) n) ∧ (∀ j, j < i + 1 → (if j = i then f i ^^^ g i else h j) = xr f g j) ∧ Below w.heap.size w (wr.setCell ⟨w.heap.size, i, none⟩ (.int .u8 ((f i ^^^ g i : Nat) : Int)))) := by
        refine ⟨?_, fun j hj => ?_, hbel.setCell (p := ⟨w.heap.size, i, none⟩) (Nat.le_refl _) _⟩
        · have h := (hown.stored i (.int .u8 ((f i ^^^ g i : Nat) : Int))).1
          rw [CB_set] at h
          exact h
        · by_cases e : j = i
          · rw [if_pos e, e]; rfl
          · rw [if_neg e]; exact hh j (by omega)
      clear hown hh hbel r0 r1 q0 q1 s0 s1
      generalize f i ^^^ g i = y at *
      generalize f i = x0 at *
      generalize g i = x1 at *
      go_wp2
      go_roundw
      case rel => exact ⟨i + 1, _, by omega, by go_num, HO.out.1, HO.out.2.1, HO.out.2.2⟩
      case measure => simp [intOf] <;> omega
    · obtain rfl : i = n := by omega
      have HO : Hid (Below w.heap.size w wr ∧ wr.ownsRow w.heap.size 5 1 (.slice (some ⟨w.heap.size, 0, none⟩) i i) i (CB (xr f g) i)) := ⟨hbel, by rw [← CB_congr h (xr f g) i hh]; exact hown⟩
      clear hown hh hbel r0 r1
      go_wp2
      go_ret2
      exact ⟨i, rfl, HO⟩
set_option maxHeartbeats 400000 in
theorem refTurn_bad (a0 a1 : Option Addr) (n0 n1 c0 c1 : Nat) (w : World) (h : n0 ≠ n1) :
    Calls Try.prog 31 #[.slice a0 n0 c0, .slice a1 n1 c1] w fun e w' => e = .returned (.tuple #[.slice none 0 0, .int .i64 31]) ∧ w' = w := by
  have hne : ((n0 : Int) != (n1 : Int)) = true := by simp; omega
  go_enter Try.func31, Try.ntmps31
  go_wp2
  go_ret2
  exact ⟨rfl, rfl⟩
set_option maxRecDepth 100000 in
set_option maxHeartbeats 1000000 in
theorem refTurn_good (a0 a1 : Option Addr) (n c0 c1 : Nat) (f g : Nat → Nat) (w : World) (r0 : Row8 w a0 n c0 f) (r1 : Row8 w a1 n c1 g) (hn : n ≤ 1000000) :
    Calls Try.prog 31 #[.slice a0 n c0, .slice a1 n c1] w fun e w' => ∃ c, e = .returned (.tuple #[.slice (some ⟨w.heap.size, 0, none⟩) n c, .int .i64 0]) ∧ Hid (Below w.heap.size w w' ∧ w'.ownsRow w.heap.size 5 1 (.slice (some ⟨w.heap.size, 0, none⟩) n c) n (CB (xr f g) n)) := by
  obtain ⟨i0, hi, hz0, hz1, hz2⟩ := info_parts info_u8
  have hne : ((n : Int) != (n : Int)) = false := by simp
  go_enter Try.func31, Try.ntmps31
  go_wp2_with (at_make; refine wpList_make8 _ rfl (.tmp 14) (.tmp 14) 31 rfl w.heap.size 5 i0 Try.underlying31 hi hz0 hz1 hz2 _ _ _ _ n n rfl rfl rfl rfl (Nat.le_refl _) (by omega) (Nat.le_refl _) ?_)
  intro w1 hown1 hbel1
  go_wp2_with fail
  go_loopw [7] (fun c wr => ∃ i h, i ≤ n ∧ c = .int .i64 ((i : Nat) : Int) ∧ wr.ownsRow w.heap.size 5 1 (.slice (some ⟨w.heap.size, 0, none⟩) n n) n (CB h n) ∧ (∀ j, j < i → h j = xr f g j) ∧ Below w.heap.size w wr) (fun c _ => n - (intOf c).toNat)
  case atStart => exact ⟨0, fun _ => 0, by omega, rfl, hown1, fun j hj => by omega, hbel1⟩
  case round =>
    clear hown1 hbel1
    obtain ⟨i, h, hi2, rfl, hown, hh, hbel⟩ := hrel
    by_cases hlt : i < n
    · obtain ⟨b0, o0, rfl, hb0, q0⟩ := r0.plain (by omega)
      obtain ⟨b1, o1, rfl, hb1, q1⟩ := r1.plain (by omega)
      obtain ⟨l0, s0⟩ := q0 i hlt
      obtain ⟨l1, s1⟩ := q1 i hlt
      have d0 := (hbel.cell (p := ⟨b0, o0 + i, none⟩) hb0).trans s0
      have d1 := (hbel.cell (p := ⟨b1, o1 + i, none⟩) hb1).trans s1
      have hcx := hown.cellAt i (by omega)
      rw [CB_get _ n _ hlt] at hcx
      have hfx := hown.frozenAt i
      have hX := u8_xor_nat (f i) (g i) l0 l1
      have HO : Hid ((wr.drew.setCell ⟨w.heap.size, i, none⟩ (.int .u8 ((f i ^^^ g i : Nat) : Int))).ownsRow w.heap.size 5 1 (.slice (some ⟨w.heap.size, 0, none⟩) n n) n (CB (fun j => if j = i then f i ^^^ g i else h j) n) ∧ (∀ j, j < i + 1 → (if j = i then f i ^^^ g i else h j) = xr f g j) ∧ Below w.heap.size w (wr.drew.setCell ⟨w.heap.size, i, none⟩ (.int .u8 ((f i ^^^ g i : Nat) : Int)))) := by
        refine ⟨?_, fun j hj => ?_, hbel.drew.setCell (p := ⟨w.heap.size, i, none⟩) (Nat.le_refl _) _⟩
        · have h := ((show wr.drew.ownsRow w.heap.size 5 1 (.slice (some ⟨w.heap.size, 0, none⟩) n n) n (CB h n) from hown).stored i (.int .u8 ((f i ^^^ g i : Nat) : Int))).1
          rw [CB_set] at h
          exact h
        · by_cases e : j = i
          · rw [if_pos e, e]; rfl
          · rw [if_neg e]; exact hh j (by omega)
      clear hown hh hbel r0 r1 q0 q1 s0 s1
      generalize f i ^^^ g i = y at *
      generalize f i = x0 at *
      generalize g i = x1 at *
      have hdi : decide ((i : Int) < (n : Int)) = true := by simp; omega
      go_wp2_with fail
      go_region
      all_goals (go_wp2_with fail; go_roundw)
      all_goals first | exact ⟨i + 1, _, by omega, by go_num, HO.out.1, HO.out.2.1, HO.out.2.2⟩ | (simp [intOf]; omega)
    · obtain rfl : i = n := by omega
      have HO : Hid (Below w.heap.size w wr ∧ wr.ownsRow w.heap.size 5 1 (.slice (some ⟨w.heap.size, 0, none⟩) i i) i (CB (xr f g) i)) := ⟨hbel, by rw [← CB_congr h (xr f g) i hh]; exact hown⟩
      clear hown hh hbel r0 r1
      go_wp2
      go_ret2
      exact ⟨i, rfl, HO⟩

end Go.Proofs.Ytohhidnockmkaaa
