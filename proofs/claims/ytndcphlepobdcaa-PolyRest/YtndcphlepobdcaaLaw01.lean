/- The walks of the statements of layer 1. -/
import Derived.Test.YtndcphlepobdcaaRefs
import Derived.OpenShut
namespace Go.Proofs.Ytndcphlepobdcaa
open Go.RowKit

theorem nat64 {a : Int} (h : (Lit.int .u64 a).wf = true) : ∃ n : Nat, a = n ∧ n < 18446744073709551616 := by
  have := bounds_u64 h
  exact ⟨a.toNat, by omega, by omega⟩
theorem nat32 {a : Int} (h : (Lit.int .u32 a).wf = true) : ∃ n : Nat, a = n ∧ n < 4294967296 := by
  have := bounds_u32 h
  exact ⟨a.toNat, by omega, by omega⟩

theorem xor_is (a b c : Nat) (ha : a < 18446744073709551616) (hb : b < 18446744073709551616) (h : a ^^^ b = c) : (bits .xor .u64 (a : Int) (b : Int) == (c : Int)) = true := by
  rw [xor_nat a b ha hb, h]; simp

set_option maxHeartbeats 400000 in
theorem polyRest_nat (p q : Nat) (w : World) (hp : p < 18446744073709551616) (hq : q < 18446744073709551616) :
    Calls Try.prog 5 #[.int .u64 p, .int .u64 q] w fun e w' => e = .returned (.bool true) ∧ w' = w := by
  by_cases h0 : q = 0
  · subst h0
    go_enter Try.func5, Try.ntmps5
    go_wp2_with (first | (go_at_call 9; refine (awake_any _).mono ?_; rintro e w' ⟨rfl, rfl⟩) | (go_at_call 16; refine (divMod_zero p _).mono ?_; rintro e w' ⟨rfl, rfl⟩))
    go_ret
    exact ⟨rfl, rfl⟩
  · have hz : ((q : Int) == 0) = false := by simpa using h0
    obtain ⟨_, hQ, hD⟩ := PM.dv_all h0 hq hp
    have hl := PM.log2_lt64 h0 hq
    have hR := R_lt64 h0 hq p
    have hQ64 : PM.Q q p < 18446744073709551616 := Nat.lt_of_lt_of_le hQ (show 2 ^ (64 - q.log2) ≤ 2 ^ 64 from Nat.pow_le_pow_right (by omega) (by omega))
    have hdeg := PM.bl_R h0 p
    have hb := PM.bl_le (n := q) (k := 64) (by omega)
    have hC : PM.C (PM.Q q p) q = PM.C q (PM.Q q p) := PM.C_comm _ _
    have hCl : PM.C (PM.Q q p) q < 18446744073709551616 := by
      have h := congrArg (· ^^^ PM.R q q.log2 p) hD
      simp only [PM.xor_cancel] at h
      rw [hC, h]; exact xor_lt64 hp hR
    have hx := xor_is _ _ p hCl hR (by rw [hC]; exact hD)
    have hs : ∀ i, q.testBit i = true → PM.Q q p <<< i < 18446744073709551616 := by
      intro i hi
      have h1 : i ≤ q.log2 := by
        by_cases h : i ≤ q.log2
        · exact h
        · have := Nat.testBit_lt_two_pow (x := q) (i := i) (Nat.lt_of_lt_of_le (PM.deg_log2 h0).lt (Nat.pow_le_pow_right (by omega) (by omega)))
          rw [this] at hi; cases hi
      rw [Nat.shiftLeft_eq]
      calc PM.Q q p * 2 ^ i < 2 ^ (64 - q.log2) * 2 ^ i := Nat.mul_lt_mul_of_pos_right hQ (Nat.two_pow_pos i)
        _ = 2 ^ (64 - q.log2 + i) := (Nat.pow_add _ _ _).symm
        _ ≤ 2 ^ 64 := Nat.pow_le_pow_right (by omega) (by omega)
    have hcl : ∀ i, i ≤ 64 → PM.cl (PM.Q q p) q i < 18446744073709551616 := by
      intro i _
      induction i with
      | zero => show (0 : Nat) < 18446744073709551616; omega
      | succ i ih =>
        cases hbit : q.testBit i
        · rw [PM.cl_false hbit]; exact ih (by omega)
        · rw [PM.cl_true hbit]; exact xor_lt64 (ih (by omega)) (hs i hbit)
    have HP := fun w => product_any (PM.Q q p) q w hq hs hcl
    clear hs hcl hD hC
    go_enter Try.func5, Try.ntmps5
    go_wp2_with (first | (go_at_call 9; refine (awake_any _).mono ?_; rintro e w' ⟨rfl, rfl⟩) | (go_at_call 16; refine (divMod_any p q _ hp hq h0).mono ?_; rintro e w' ⟨rfl, rfl⟩) | (go_at_call 18; refine (HP _).mono ?_; rintro e w' ⟨rfl, rfl⟩) | (go_at_call 10; refine (degree_any _ _ (by assumption)).mono ?_; rintro e w' ⟨rfl, rfl⟩))
    go_ret
    exact ⟨ret_bool (by simp; omega), rfl⟩
theorem polyRest_walk (a0 : Int) (a1 : Int) (w0 : (Lit.int .u64 a0).wf = true) (w1 : (Lit.int .u64 a1).wf = true) (w : World) :
    Calls Try.prog 5 #[.int .u64 a0, .int .u64 a1] w fun e w' => e = .returned (.bool true) ∧ Grown w w' := by
  obtain ⟨p, rfl, hp⟩ := nat64 w0
  obtain ⟨q, rfl, hq⟩ := nat64 w1
  refine (polyRest_nat p q w hp hq).mono ?_
  rintro e w' ⟨rfl, rfl⟩
  exact ⟨rfl, Grown.refl _⟩

end Go.Proofs.Ytndcphlepobdcaa
