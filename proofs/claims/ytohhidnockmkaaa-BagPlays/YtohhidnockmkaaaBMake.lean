/- Make and Turn: the program's and the document's. -/
import Derived.Test.YtohhidnockmkaaaBurst
import Derived.Test.YtohhidnockmkaaaCSeal
import Derived.RegionTactic
namespace Go.Proofs.Ytohhidnockmkaaa
open Go.RowKit

/-- What Make answers where it makes nothing. -/
def mkErr (n at_ : Int) (x : Nat) : Int := if n < 0 ∨ 65536 < n then 2 else if x = 0 ∨ at_ < 0 ∨ 8 * n < at_ + PM.bl x then 30 else 0
theorem mkErr_range {n at_ : Int} {x : Nat} (h : n < 0 ∨ 65536 < n) : mkErr n at_ x = 2 := by unfold mkErr; rw [if_pos h]
theorem mkErr_burst {n at_ : Int} {x : Nat} (h : ¬ (n < 0 ∨ 65536 < n)) (h2 : x = 0 ∨ at_ < 0 ∨ 8 * n < at_ + PM.bl x) : mkErr n at_ x = 30 := by unfold mkErr; rw [if_neg h, if_pos h2]
theorem mkErr_ok {n at_ : Int} {x : Nat} (h : ¬ (n < 0 ∨ 65536 < n)) (h2 : ¬ (x = 0 ∨ at_ < 0 ∨ 8 * n < at_ + PM.bl x)) : mkErr n at_ x = 0 := by unfold mkErr; rw [if_neg h, if_neg h2]
theorem mkErr_cases {n at_ : Int} {x : Nat} (h : mkErr n at_ x ≠ 0) : (n < 0 ∨ 65536 < n) ∨ (¬ (n < 0 ∨ 65536 < n) ∧ (x = 0 ∨ at_ < 0 ∨ 8 * n < at_ + PM.bl x)) := by
  by_cases h1 : n < 0 ∨ 65536 < n
  · exact .inl h1
  · by_cases h2 : x = 0 ∨ at_ < 0 ∨ 8 * n < at_ + PM.bl x
    · exact .inr ⟨h1, h2⟩
    · exact absurd (mkErr_ok h1 h2) h
/-- What is made. -/
def Made (B : Nat) (w' : World) (n at_ x : Nat) (v : Value) : Prop :=
  ∃ f, w'.ownsRow B 5 1 v n (CB f n) ∧ (∀ i, i < n → f i < 256) ∧ ∀ k, k < 8 * n → PM.fb f k = PM.ly at_ (PM.bl x) x (PM.bl x) k
set_option maxHeartbeats 400000 in
theorem make_bad (n at_ : Int) (x : Nat) (w : World) (hx : x < 4294967296) (hn : -9223372036854775808 ≤ n ∧ n < 9223372036854775808) (ha : -9223372036854775808 ≤ at_ ∧ at_ < 9223372036854775808) (h : mkErr n at_ x ≠ 0) :
    Calls Try.prog 28 #[.int .i64 n, .int .i64 at_, .int .u32 x] w fun e w' => e = .returned (.tuple #[.slice none 0 0, .int .i64 (mkErr n at_ x)]) ∧ w' = w := by
  have hL := len32_any x w hx
  have hbl := PM.bl_le (n := x) (k := 32) (by omega)
  rcases mkErr_cases h with h1 | ⟨h1, h2⟩
  · rw [mkErr_range h1]
    clear h hL
    by_cases hn0 : n < 0
    · go_enter Try.func28, Try.ntmps28
      go_wp2
      go_ret2
      exact ⟨rfl, rfl⟩
    · have hn1 : 65536 < n := by omega
      clear h1
      go_enter Try.func28, Try.ntmps28
      go_wp2
      go_ret2
      exact ⟨rfl, rfl⟩
  · rw [mkErr_burst h1 h2]
    have hn0 : 0 ≤ n := by omega
    have hn1 : n ≤ 65536 := by omega
    clear h h1
    by_cases hx0 : x = 0
    · subst hx0
      clear h2
      rw [PM.bl_zero] at hL
      go_enter Try.func28, Try.ntmps28
      go_wp2_with (go_at_call 42; refine hL.mono ?_; rintro e w' ⟨rfl, rfl⟩)
      go_ret2
      exact ⟨rfl, rfl⟩
    · have hxn : ((x : Int) == 0) = false := by simp; omega
      generalize PM.bl x = s at *
      by_cases ha0 : at_ < 0
      · clear h2
        go_enter Try.func28, Try.ntmps28
        go_wp2_with (go_at_call 42; refine hL.mono ?_; rintro e w' ⟨rfl, rfl⟩)
        go_ret2
        exact ⟨rfl, rfl⟩
      · have hg : 8 * n - (s : Int) < at_ := by omega
        clear h2
        go_enter Try.func28, Try.ntmps28
        go_wp2_with (go_at_call 42; refine hL.mono ?_; rintro e w' ⟨rfl, rfl⟩)
        go_ret2
        exact ⟨rfl, rfl⟩
theorem bitB (x k : Nat) : bits .and .u8 ((x : Int) / 2 ^ k % 256) 1 = ((x.testBit k).toNat : Int) := by
  have e : (x : Int) / 2 ^ k = ((x >>> k : Nat) : Int) := by rw [Nat.shiftRight_eq_div_pow]; simp
  have h := u8_and_nat (x >>> k % 256) 1 (Nat.mod_lt _ (by omega)) (by omega)
  rw [nat_mask1, Nat.mod_mod_of_dvd _ (by decide), shr_bit] at h
  rw [e, ← h]; rfl
set_option maxRecDepth 100000 in
set_option maxHeartbeats 1000000 in
theorem make_good (n at_ x : Nat) (w : World) (hx : x < 4294967296) (hx0 : x ≠ 0) (hn : n ≤ 65536) (hfit : at_ + PM.bl x ≤ 8 * n) :
    Calls Try.prog 28 #[.int .i64 n, .int .i64 at_, .int .u32 x] w fun e w' => ∃ v, e = .returned (.tuple #[v, .int .i64 0]) ∧ Hid (Below w.heap.size w w' ∧ Made w.heap.size w' n at_ x v) := by
  obtain ⟨i0, hi, hz0, hz1, hz2⟩ := info_parts info_u8
  have hL := len32_any x w hx
  have hbl := PM.bl_le (n := x) (k := 32) (by omega)
  have hbit := fun k => bitB x k
  have hpos : 0 < PM.bl x := by rw [PM.bl_pos hx0]; omega
  have hxn : ((x : Int) == 0) = false := by simp; omega
  have hd1 : decide ((8 : Int) * (n : Int) - (PM.bl x : Int) < (at_ : Int)) = false := by simp; omega
  unfold Made
  generalize PM.bl x = s at *
  go_enter Try.func28, Try.ntmps28
  go_wp2_with (first | (go_at_call 42; refine hL.mono ?_; rintro e w ⟨rfl, rfl⟩) | (at_make; refine wpList_make8 _ rfl (.tmp 35) (.tmp 35) 31 rfl w.heap.size 5 i0 Try.underlying31 hi hz0 hz1 hz2 _ _ _ _ n n rfl rfl rfl rfl (Nat.le_refl _) (by omega) (Nat.le_refl _) ?_))
  intro w1 hown1 hbel1
  clear hL
  go_wp2_with fail
  go_loopw [10, 11, 12, 38] (fun _ _ _ c wr => ∃ i f, i ≤ s ∧ c = .int .i64 ((i : Nat) : Int) ∧ wr.ownsRow w.heap.size 5 1 (.slice (some ⟨w.heap.size, 0, none⟩) n n) n (CB f n) ∧ (∀ i, i < n → f i < 256) ∧ (∀ k, PM.fb f k = PM.ly at_ s x i k) ∧ Below w.heap.size w wr) (fun _ _ _ c _ => s - (intOf c).toNat)
  case atStart => exact ⟨0, fun _ => 0, by omega, rfl, hown1, fun i _ => by show 0 < 256; omega, fun k => by rw [PM.ly_zero]; unfold PM.fb; exact Nat.zero_testBit _, hbel1⟩
  case round =>
    clear hown1 hbel1
    obtain ⟨i, f, hi2, rfl, hown, hfb, hfV, hbel⟩ := hrel
    by_cases hlt : i < s
    · have t1 := hbit (s - 1 - i)
      clear hbit
      obtain ⟨k, hk⟩ : ∃ k, k = at_ + i := ⟨_, rfl⟩
      have hk1 : (at_ : Int) + (i : Int) = (k : Int) := by omega
      obtain ⟨q, hq⟩ : ∃ q, q = k / 8 := ⟨_, rfl⟩
      obtain ⟨m, hm⟩ : ∃ m, m = k % 8 := ⟨_, rfl⟩
      have hq1 : (k : Int) / 8 = (q : Int) := by omega
      have hm1 : (k : Int) % 8 = (m : Int) := by omega
      have hq2 : (k : Int).tdiv 8 = (q : Int) := by rw [Int.tdiv_eq_ediv_of_nonneg (by omega)]; exact hq1
      have hm2 : (k : Int).tmod 8 = (m : Int) := by rw [Int.tmod_eq_emod_of_nonneg (by omega)]; exact hm1
      have hql : q < n := by omega
      have hm8 : m < 8 := by omega
      have hcx := hown.cellAt q (by omega)
      rw [CB_get _ n _ hql] at hcx
      have hfx := hown.frozenAt q
      have hfq := hfb q hql
      have HV : Hid (∀ k, PM.fb f k = PM.ly at_ s x i k) := hfV
      have HO : Hid (_) := And.intro hown (And.intro hfb hbel)
      clear hfV hown hfb hbel
      have HS : Hid (∀ j, PM.ly at_ s x (i + 1) j = (PM.ly at_ s x i j || (decide (j = at_ + i) && x.testBit (s - 1 - i)))) := fun j => PM.ly_succ at_ s x i j
      generalize x.testBit (s - 1 - i) = bb at *
      obtain ⟨y1, hy1⟩ : ∃ y, y = bb.toNat := ⟨_, rfl⟩
      have hy2 : y1 ≤ 1 := by rw [hy1]; exact Bool.toNat_le bb
      rw [← hy1] at t1
      obtain ⟨d, hd⟩ : ∃ d, d = 7 - m := ⟨_, rfl⟩
      have hd7 : (7 : Int) - (m : Int) = (d : Int) := by omega
      have hdl : d ≤ 7 := by omega
      obtain ⟨z, hz⟩ : ∃ z, z = y1 * 2 ^ d := ⟨_, rfl⟩
      have hzl : z < 256 := by
        have h1 : 2 ^ d ≤ 2 ^ 7 := Nat.pow_le_pow_right (by omega) hdl
        have h2 := Nat.mul_le_mul hy2 h1
        rw [hz]; omega
      have hsh : (y1 : Int) * 2 ^ d % 256 = (z : Int) := by
        have e : (y1 : Int) * 2 ^ d = (z : Int) := by rw [hz]; simp
        rw [e]; omega
      have hor := u8_or_nat (f q) z hfq hzl
      obtain ⟨y, hy⟩ : ∃ y, y = f q ||| z := ⟨_, rfl⟩
      rw [← hy] at hor
      have hol : ∀ j, (if j = q then y else f j) = PM.ol f k bb j := fun j => by
        unfold PM.ol; rw [hy, hz, hq, hd, hm, hy1]
      have HO2 : Hid ((wr.drew.setCell ⟨w.heap.size, q, none⟩ (.int .u8 ((y : Nat) : Int))).ownsRow w.heap.size 5 1 (.slice (some ⟨w.heap.size, 0, none⟩) n n) n (CB (PM.ol f k bb) n) ∧ (∀ i, i < n → PM.ol f k bb i < 256) ∧ (∀ j, PM.fb (PM.ol f k bb) j = PM.ly at_ s x (i + 1) j) ∧ Below w.heap.size w (wr.drew.setCell ⟨w.heap.size, q, none⟩ (.int .u8 ((y : Nat) : Int)))) := by
        refine ⟨?_, PM.ol_lt HO.out.2.1 k bb (by omega), fun j => ?_, HO.out.2.2.drew.setCell (p := ⟨w.heap.size, q, none⟩) (Nat.le_refl _) _⟩
        · have h := ((show wr.drew.ownsRow w.heap.size 5 1 (.slice (some ⟨w.heap.size, 0, none⟩) n n) n (CB f n) from HO.out.1).stored q (.int .u8 ((y : Nat) : Int))).1
          rw [CB_set, CB_congr _ (PM.ol f k bb) n (fun i _ => hol i)] at h
          exact h
        · rw [PM.ol_fb, HV.out, HS.out, hk]
      clear hk hq hm hy1 hd hz hol HV HO HS hy hy2
      generalize f q = g at *
      go_wp2_with fail
      go_region
      all_goals (go_wp2_with fail; go_roundw)
      case rel => exact ⟨i + 1, PM.ol f k bb, by omega, by go_num, HO2.out.1, HO2.out.2.1, HO2.out.2.2.1, HO2.out.2.2.2⟩
      case measure => simp [intOf] <;> omega
    · obtain rfl : i = s := by omega
      have HO : Hid (_) := And.intro hbel (And.intro hown (And.intro hfb hfV))
      clear hbit hown hfb hfV hbel
      go_wp2
      go_ret2
      exact ⟨_, rfl, HO.out.1, f, HO.out.2.1, HO.out.2.2.1, fun k _ => HO.out.2.2.2 k⟩

end Go.Proofs.Ytohhidnockmkaaa
