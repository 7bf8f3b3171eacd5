/- The walks of the statements of layer 1. -/
import Derived.Test.YtndcphlepobdcaaMem
import Derived.OpenShut
namespace Go.Proofs.Ytndcphlepobdcaa
open Go.RowKit

theorem nat64 {a : Int} (h : (Lit.int .u64 a).wf = true) : ∃ n : Nat, a = n ∧ n < 18446744073709551616 := by
  have := bounds_u64 h
  exact ⟨a.toNat, by omega, by omega⟩
theorem nat32 {a : Int} (h : (Lit.int .u32 a).wf = true) : ∃ n : Nat, a = n ∧ n < 4294967296 := by
  have := bounds_u32 h
  exact ⟨a.toNat, by omega, by omega⟩

theorem xor_is (a b c : Nat) (ha : a < 18446744073709551616) (hb : b < 18446744073709551616) (h : a ^^^ b = c) : (bits .xor .u64 (a : Int) (b : Int) == (c : Int)) = true := by
  rw [xor_nat a b ha hb, h]; simp

set_option maxHeartbeats 400000 in
theorem polyRest_nat (p q : Nat) (w : World) (hp : p < 18446744073709551616) (hq : q < 18446744073709551616) :
    Calls Try.prog 5 #[.int .u64 p, .int .u64 q] w fun e w' => e = .returned (.bool true) ∧ w' = w := by
  by_cases h0 : q = 0
  · subst h0
    go_enter Try.func5, Try.ntmps5
    go_wp2_with (first | (go_at_call 9; refine (awake_any _).mono ?_; rintro e w' ⟨rfl, rfl⟩) | (go_at_call 16; refine (divMod_zero p _).mono ?_; rintro e w' ⟨rfl, rfl⟩))
    go_ret
    exact ⟨rfl, rfl⟩
  · have hz : ((q : Int) == 0) = false := by simpa using h0
    obtain ⟨_, hQ, hD⟩ := PM.dv_all h0 hq hp
    have hl := PM.log2_lt64 h0 hq
    have hR := R_lt64 h0 hq p
    have hQ64 : PM.Q q p < 18446744073709551616 := Nat.lt_of_lt_of_le hQ (show 2 ^ (64 - q.log2) ≤ 2 ^ 64 from Nat.pow_le_pow_right (by omega) (by omega))
    have hdeg := PM.bl_R h0 p
    have hb := PM.bl_le (n := q) (k := 64) (by omega)
    have hC : PM.C (PM.Q q p) q = PM.C q (PM.Q q p) := PM.C_comm _ _
    have hCl : PM.C (PM.Q q p) q < 18446744073709551616 := by
      have h := congrArg (· ^^^ PM.R q q.log2 p) hD
      simp only [PM.xor_cancel] at h
      rw [hC, h]; exact xor_lt64 hp hR
    have hx := xor_is _ _ p hCl hR (by rw [hC]; exact hD)
    have hs : ∀ i, q.testBit i = true → PM.Q q p <<< i < 18446744073709551616 := by
      intro i hi
      have h1 : i ≤ q.log2 := by
        by_cases h : i ≤ q.log2
        · exact h
        · have := Nat.testBit_lt_two_pow (x := q) (i := i) (Nat.lt_of_lt_of_le (PM.deg_log2 h0).lt (Nat.pow_le_pow_right (by omega) (by omega)))
          rw [this] at hi; cases hi
      rw [Nat.shiftLeft_eq]
      calc PM.Q q p * 2 ^ i < 2 ^ (64 - q.log2) * 2 ^ i := Nat.mul_lt_mul_of_pos_right hQ (Nat.two_pow_pos i)
        _ = 2 ^ (64 - q.log2 + i) := (Nat.pow_add _ _ _).symm
        _ ≤ 2 ^ 64 := Nat.pow_le_pow_right (by omega) (by omega)
    have hcl : ∀ i, i ≤ 64 → PM.cl (PM.Q q p) q i < 18446744073709551616 := by
      intro i _
      induction i with
      | zero => show (0 : Nat) < 18446744073709551616; omega
      | succ i ih =>
        cases hbit : q.testBit i
        · rw [PM.cl_false hbit]; exact ih (by omega)
        · rw [PM.cl_true hbit]; exact xor_lt64 (ih (by omega)) (hs i hbit)
    have HP := fun w => product_any (PM.Q q p) q w hq hs hcl
    clear hs hcl hD hC
    go_enter Try.func5, Try.ntmps5
    go_wp2_with (first | (go_at_call 9; refine (awake_any _).mono ?_; rintro e w' ⟨rfl, rfl⟩) | (go_at_call 16; refine (divMod_any p q _ hp hq h0).mono ?_; rintro e w' ⟨rfl, rfl⟩) | (go_at_call 18; refine (HP _).mono ?_; rintro e w' ⟨rfl, rfl⟩) | (go_at_call 10; refine (degree_any _ _ (by assumption)).mono ?_; rintro e w' ⟨rfl, rfl⟩))
    go_ret
    exact ⟨ret_bool (by simp; omega), rfl⟩
theorem polyRest_walk (a0 : Int) (a1 : Int) (w0 : (Lit.int .u64 a0).wf = true) (w1 : (Lit.int .u64 a1).wf = true) (w : World) :
    Calls Try.prog 5 #[.int .u64 a0, .int .u64 a1] w fun e w' => e = .returned (.bool true) ∧ Grown w w' := by
  obtain ⟨p, rfl, hp⟩ := nat64 w0
  obtain ⟨q, rfl, hq⟩ := nat64 w1
  refine (polyRest_nat p q w hp hq).mono ?_
  rintro e w' ⟨rfl, rfl⟩
  exact ⟨rfl, Grown.refl _⟩
set_option maxHeartbeats 400000 in
theorem polyRing_nat (p q s m : Nat) (w : World) (hp : p < 18446744073709551616) (hq : q < 18446744073709551616) (hs : s < 18446744073709551616) (hm : m < 18446744073709551616) :
    Calls Try.prog 8 #[.int .u64 p, .int .u64 q, .int .u64 s, .int .u64 m] w fun e w' => e = .returned (.bool true) ∧ w' = w := by
  by_cases h0 : m = 0
  · subst h0
    go_enter Try.func8, Try.ntmps8
    go_wp2_with (go_at_call 9; refine (awake_any _).mono ?_; rintro e w' ⟨rfl, rfl⟩)
    go_ret
    exact ⟨rfl, rfl⟩
  · have hz : ((m : Int) == 0) = false := by simpa using h0
    have hx0 := xor_nat p q hp hq
    have hx := xor_lt64 hp hq
    have hA := R_lt64 h0 hm (PM.C p s)
    have hB := R_lt64 h0 hm (PM.C q s)
    have e1 : PM.C s p = PM.C p s := PM.C_comm _ _
    have e2 : PM.R m m.log2 (PM.C (PM.R m m.log2 (PM.C q s)) p) = PM.R m m.log2 (PM.C (PM.R m m.log2 (PM.C p s)) q) := by
      rw [PM.R_C_left (PM.deg_log2 h0), PM.R_C_left (PM.deg_log2 h0), PM.C_comm q s, PM.C_assoc, PM.C_comm p s, PM.C_assoc, PM.C_comm p q]
    have e3 := xor_is _ _ (PM.R m m.log2 (PM.C (p ^^^ q) s)) hA hB (by rw [PM.C_xor_left, PM.R_xor])
    generalize p ^^^ q = x at hx0 hx e3
    go_enter Try.func8, Try.ntmps8
    go_wp2_with (first | (go_at_call 9; refine (awake_any _).mono ?_; rintro e w' ⟨rfl, rfl⟩) | (go_at_call 21; refine (mulMod_any _ _ m _ (by assumption) (by assumption) hm h0).mono ?_; rintro e w' ⟨rfl, rfl⟩))
    go_ret
    exact ⟨ret_bool (by simp), rfl⟩
theorem polyRing_walk (a0 : Int) (a1 : Int) (a2 : Int) (a3 : Int) (w0 : (Lit.int .u64 a0).wf = true) (w1 : (Lit.int .u64 a1).wf = true) (w2 : (Lit.int .u64 a2).wf = true) (w3 : (Lit.int .u64 a3).wf = true) (w : World) :
    Calls Try.prog 8 #[.int .u64 a0, .int .u64 a1, .int .u64 a2, .int .u64 a3] w fun e w' => e = .returned (.bool true) ∧ Grown w w' := by
  obtain ⟨p, rfl, hp⟩ := nat64 w0
  obtain ⟨q, rfl, hq⟩ := nat64 w1
  obtain ⟨s, rfl, hs⟩ := nat64 w2
  obtain ⟨m, rfl, hm⟩ := nat64 w3
  refine (polyRing_nat p q s m w hp hq hs hm).mono ?_
  rintro e w' ⟨rfl, rfl⟩
  exact ⟨rfl, Grown.refl _⟩
set_option maxHeartbeats 400000 in
theorem polyWords_nat (p a b : Nat) (w : World) (hp : p < 18446744073709551616) (ha : a < 4294967296) (hb : b < 4294967296) :
    Calls Try.prog 3 #[.int .u64 p, .int .u32 a, .int .u32 b] w fun e w' => e = .returned (.bool true) ∧ w' = w := by
  have hw := PM.wt_le p 64
  have hbl := PM.bl_le (n := p) (k := 64) (by omega)
  go_enter Try.func3, Try.ntmps3
  go_wp2_with (first | (go_at_call 9; refine (awake_any _).mono ?_; rintro e w' ⟨rfl, rfl⟩) | (go_at_call 10; refine (degree_any p _ hp).mono ?_; rintro e w' ⟨rfl, rfl⟩) | (go_at_call 11; refine (refDegree_any p _ hp).mono ?_; rintro e w' ⟨rfl, rfl⟩) | (go_at_call 12; refine (weight_any p _ hp).mono ?_; rintro e w' ⟨rfl, rfl⟩) | (go_at_call 13; refine (refWeight_any p _ hp).mono ?_; rintro e w' ⟨rfl, rfl⟩) | (go_at_call 14; refine (mul_any a b _ ha hb).mono ?_; rintro e w' ⟨rfl, rfl⟩) | (go_at_call 15; refine (refMul_any a b _ ha hb).mono ?_; rintro e w' ⟨rfl, rfl⟩))
  go_ret
  exact ⟨ret_bool (by simp), rfl⟩
theorem polyWords_walk (a0 : Int) (a1 : Int) (a2 : Int) (w0 : (Lit.int .u64 a0).wf = true) (w1 : (Lit.int .u32 a1).wf = true) (w2 : (Lit.int .u32 a2).wf = true) (w : World) :
    Calls Try.prog 3 #[.int .u64 a0, .int .u32 a1, .int .u32 a2] w fun e w' => e = .returned (.bool true) ∧ Grown w w' := by
  obtain ⟨p, rfl, hp⟩ := nat64 w0
  obtain ⟨a, rfl, ha⟩ := nat32 w1
  obtain ⟨b, rfl, hb⟩ := nat32 w2
  refine (polyWords_nat p a b w hp ha hb).mono ?_
  rintro e w' ⟨rfl, rfl⟩
  exact ⟨rfl, Grown.refl _⟩
set_option maxHeartbeats 400000 in
theorem polyDivides_nat (p q : Nat) (w : World) (hp : p < 18446744073709551616) (hq : q < 18446744073709551616) :
    Calls Try.prog 4 #[.int .u64 p, .int .u64 q] w fun e w' => e = .returned (.bool true) ∧ w' = w := by
  by_cases h0 : q = 0
  · subst h0
    go_enter Try.func4, Try.ntmps4
    go_wp2_with (first | (go_at_call 9; refine (awake_any _).mono ?_; rintro e w' ⟨rfl, rfl⟩) | (go_at_call 16; refine (divMod_zero p _).mono ?_; rintro e w' ⟨rfl, rfl⟩) | (go_at_call 17; refine (refDivMod_zero p _).mono ?_; rintro e w' ⟨rfl, rfl⟩))
    go_ret
    exact ⟨rfl, rfl⟩
  · go_enter Try.func4, Try.ntmps4
    go_wp2_with (first | (go_at_call 9; refine (awake_any _).mono ?_; rintro e w' ⟨rfl, rfl⟩) | (go_at_call 16; refine (divMod_any p q _ hp hq h0).mono ?_; rintro e w' ⟨rfl, rfl⟩) | (go_at_call 17; refine (refDivMod_any p q _ hp hq h0).mono ?_; rintro e w' ⟨rfl, rfl⟩))
    go_ret
    exact ⟨ret_bool (by simp), rfl⟩
theorem polyDivides_walk (a0 : Int) (a1 : Int) (w0 : (Lit.int .u64 a0).wf = true) (w1 : (Lit.int .u64 a1).wf = true) (w : World) :
    Calls Try.prog 4 #[.int .u64 a0, .int .u64 a1] w fun e w' => e = .returned (.bool true) ∧ Grown w w' := by
  obtain ⟨p, rfl, hp⟩ := nat64 w0
  obtain ⟨q, rfl, hq⟩ := nat64 w1
  refine (polyDivides_nat p q w hp hq).mono ?_
  rintro e w' ⟨rfl, rfl⟩
  exact ⟨rfl, Grown.refl _⟩
set_option maxHeartbeats 400000 in
theorem polyGcd_nat (p q d : Nat) (w : World) (hp : p < 18446744073709551616) (hq : q < 18446744073709551616) (hd : d < 18446744073709551616) :
    Calls Try.prog 6 #[.int .u64 p, .int .u64 q, .int .u64 d] w fun e w' => e = .returned (.bool true) ∧ w' = w := by
  have e1 : PM.G q p = PM.G p q := PM.G_comm q p
  have hg : PM.G p q < 18446744073709551616 := PM.G_lt _ 64 p q (Nat.le_refl _) hp hq
  by_cases h0 : d = 0
  · subst h0
    go_enter Try.func6, Try.ntmps6
    go_wp2_with (first | (go_at_call 9; refine (awake_any _).mono ?_; rintro e w' ⟨rfl, rfl⟩) | (go_at_call 19; refine (gcd_any _ _ _ (by assumption) (by assumption)).mono ?_; rintro e w' ⟨rfl, rfl⟩) | (go_at_call 20; refine (refGcd_any _ p q _ (Nat.le_refl _) hp hq).mono ?_; rintro e w' ⟨rfl, rfl⟩))
    go_ret
    exact ⟨rfl, rfl⟩
  · have hz : ((d : Int) == 0) = false := by simpa using h0
    have hdiv := PM.G_div (PM.deg_log2 h0) _ p q (Nat.le_refl _) hq hp
    have ha := R_lt64 h0 hd p
    have hb := R_lt64 h0 hd q
    have hc := R_lt64 h0 hd (PM.G p q)
    by_cases hx : PM.R d d.log2 p = 0
    · by_cases hy : PM.R d d.log2 q = 0
      · have hzz : PM.R d d.log2 (PM.G p q) = 0 := hdiv.1 ⟨hx, hy⟩
        clear hdiv
        go_enter Try.func6, Try.ntmps6
        go_wp2_with (first | (go_at_call 9; refine (awake_any _).mono ?_; rintro e w' ⟨rfl, rfl⟩) | (go_at_call 19; refine (gcd_any _ _ _ (by assumption) (by assumption)).mono ?_; rintro e w' ⟨rfl, rfl⟩) | (go_at_call 20; refine (refGcd_any _ p q _ (Nat.le_refl _) hp hq).mono ?_; rintro e w' ⟨rfl, rfl⟩) | (go_at_call 16; refine (divMod_any _ d _ (by assumption) hd h0).mono ?_; rintro e w' ⟨rfl, rfl⟩))
        go_ret
        exact ⟨ret_bool (by simp), rfl⟩
      · have hzz : (((PM.R d d.log2 (PM.G p q) : Nat) : Int) == 0) = false := by
          have : ¬ PM.R d d.log2 (PM.G p q) = 0 := fun h => hy (hdiv.2 h).2
          simpa using this
        have hyy : (((PM.R d d.log2 q : Nat) : Int) == 0) = false := by simpa using hy
        clear hdiv
        go_enter Try.func6, Try.ntmps6
        go_wp2_with (first | (go_at_call 9; refine (awake_any _).mono ?_; rintro e w' ⟨rfl, rfl⟩) | (go_at_call 19; refine (gcd_any _ _ _ (by assumption) (by assumption)).mono ?_; rintro e w' ⟨rfl, rfl⟩) | (go_at_call 20; refine (refGcd_any _ p q _ (Nat.le_refl _) hp hq).mono ?_; rintro e w' ⟨rfl, rfl⟩) | (go_at_call 16; refine (divMod_any _ d _ (by assumption) hd h0).mono ?_; rintro e w' ⟨rfl, rfl⟩))
        go_ret
        exact ⟨ret_bool (by simp), rfl⟩
    · have hzz : (((PM.R d d.log2 (PM.G p q) : Nat) : Int) == 0) = false := by
        have : ¬ PM.R d d.log2 (PM.G p q) = 0 := fun h => hx (hdiv.2 h).1
        simpa using this
      have hxx : (((PM.R d d.log2 p : Nat) : Int) == 0) = false := by simpa using hx
      clear hdiv
      go_enter Try.func6, Try.ntmps6
      go_wp2_with (first | (go_at_call 9; refine (awake_any _).mono ?_; rintro e w' ⟨rfl, rfl⟩) | (go_at_call 19; refine (gcd_any _ _ _ (by assumption) (by assumption)).mono ?_; rintro e w' ⟨rfl, rfl⟩) | (go_at_call 20; refine (refGcd_any _ p q _ (Nat.le_refl _) hp hq).mono ?_; rintro e w' ⟨rfl, rfl⟩) | (go_at_call 16; refine (divMod_any _ d _ (by assumption) hd h0).mono ?_; rintro e w' ⟨rfl, rfl⟩))
      go_ret
      exact ⟨ret_bool (by simp), rfl⟩
theorem polyGcd_walk (a0 : Int) (a1 : Int) (a2 : Int) (w0 : (Lit.int .u64 a0).wf = true) (w1 : (Lit.int .u64 a1).wf = true) (w2 : (Lit.int .u64 a2).wf = true) (w : World) :
    Calls Try.prog 6 #[.int .u64 a0, .int .u64 a1, .int .u64 a2] w fun e w' => e = .returned (.bool true) ∧ Grown w w' := by
  obtain ⟨p, rfl, hp⟩ := nat64 w0
  obtain ⟨q, rfl, hq⟩ := nat64 w1
  obtain ⟨d, rfl, hd⟩ := nat64 w2
  refine (polyGcd_nat p q d w hp hq hd).mono ?_
  rintro e w' ⟨rfl, rfl⟩
  exact ⟨rfl, Grown.refl _⟩
set_option maxHeartbeats 400000 in
theorem polyMods_nat (p q m : Nat) (w : World) (hp : p < 18446744073709551616) (hq : q < 18446744073709551616) (hm : m < 18446744073709551616) :
    Calls Try.prog 7 #[.int .u64 p, .int .u64 q, .int .u64 m] w fun e w' => e = .returned (.bool true) ∧ Grown w w' := by
  by_cases h0 : m = 0
  · subst h0
    go_enter Try.func7, Try.ntmps7
    go_wp2_with (first | (go_at_call 9; refine (awake_any _).mono ?_; rintro e w' ⟨rfl, rfl⟩) | (go_at_call 21; refine (mulMod_zero p q _).mono ?_; rintro e w' ⟨rfl, rfl⟩) | (go_at_call 22; refine (refMulMod_zero p q _).mono ?_; rintro e w' ⟨rfl, rfl⟩) | (go_at_call 23; refine (powMod_zero p _).mono ?_; rintro e w' ⟨rfl, rfl⟩) | (go_at_call 24; refine (refPowMod_zero p _).mono ?_; rintro e w' ⟨rfl, rfl⟩))
    go_ret
    exact ⟨rfl, Grown.refl _⟩
  · go_enter Try.func7, Try.ntmps7
    go_wp2_with (first | (go_at_call 9; refine (awake_any _).mono ?_; rintro e w' ⟨rfl, rfl⟩) | (go_at_call 21; refine (mulMod_any p q m _ hp hq hm h0).mono ?_; rintro e w' ⟨rfl, rfl⟩) | (go_at_call 22; refine (refMulMod_any p q m _ hp hq hm h0).mono ?_; rintro e w1 ⟨rfl, hg1⟩) | (go_at_call 23; refine (powMod_any p m _ hp hm h0).mono ?_; rintro e w' ⟨rfl, rfl⟩) | (go_at_call 24; refine (refPowMod_any m hm h0 64 p _ hp hp).mono ?_; rintro e w2 ⟨rfl, hg2⟩))
    go_ret
    exact ⟨ret_bool (by simp), grown_trans hg1 hg2⟩
theorem polyMods_walk (a0 : Int) (a1 : Int) (a2 : Int) (w0 : (Lit.int .u64 a0).wf = true) (w1 : (Lit.int .u64 a1).wf = true) (w2 : (Lit.int .u64 a2).wf = true) (w : World) :
    Calls Try.prog 7 #[.int .u64 a0, .int .u64 a1, .int .u64 a2] w fun e w' => e = .returned (.bool true) ∧ Grown w w' := by
  obtain ⟨p, rfl, hp⟩ := nat64 w0
  obtain ⟨q, rfl, hq⟩ := nat64 w1
  obtain ⟨m, rfl, hm⟩ := nat64 w2
  exact polyMods_nat p q m w hp hq hm

end Go.Proofs.Ytndcphlepobdcaa
