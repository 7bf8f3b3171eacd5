/- The walks of the statements of layer 1. -/
import Derived.Test.YtndcphlepobdcabMem
import Derived.OpenShut
namespace Go.Proofs.Ytndcphlepobdcab
open Go.RowKit

theorem nat64 {a : Int} (h : (Lit.int .u64 a).wf = true) : ∃ n : Nat, a = n ∧ n < 18446744073709551616 := by
  have := bounds_u64 h
  exact ⟨a.toNat, by omega, by omega⟩
theorem nat32 {a : Int} (h : (Lit.int .u32 a).wf = true) : ∃ n : Nat, a = n ∧ n < 4294967296 := by
  have := bounds_u32 h
  exact ⟨a.toNat, by omega, by omega⟩

theorem xor_is (a b c : Nat) (ha : a < 18446744073709551616) (hb : b < 18446744073709551616) (h : a ^^^ b = c) : (bits .xor .u64 (a : Int) (b : Int) == (c : Int)) = true := by
  rw [xor_nat a b ha hb, h]; simp

set_option maxHeartbeats 400000 in
theorem polyPowers_nat (n k m : Nat) (w : World) (hn : n < 18446744073709551616) (hk : k < 18446744073709551616) (hm : m < 18446744073709551616) :
    Calls Try.prog 3 #[.int .u64 n, .int .u64 k, .int .u64 m] w fun e w' => e = .returned (.bool true) ∧ w' = w := by
  by_cases h0 : m = 0
  · subst h0
    go_enter Try.func3, Try.ntmps3
    go_wp2_with (go_at_call 6; refine (awake_any _).mono ?_; rintro e w' ⟨rfl, rfl⟩)
    go_ret
    exact ⟨rfl, rfl⟩
  · have hz : ((m : Int) == 0) = false := by simpa using h0
    by_cases h1 : 9223372036854775808 < n
    · go_enter Try.func3, Try.ntmps3
      go_wp2_with (go_at_call 6; refine (awake_any _).mono ?_; rintro e w' ⟨rfl, rfl⟩)
      go_ret
      exact ⟨rfl, rfl⟩
    · by_cases h2 : 9223372036854775808 ≤ k
      · go_enter Try.func3, Try.ntmps3
        go_wp2_with (go_at_call 6; refine (awake_any _).mono ?_; rintro e w' ⟨rfl, rfl⟩)
        go_ret
        exact ⟨rfl, rfl⟩
      · have hA := R_lt64 h0 hm (2 ^ n)
        have hB := R_lt64 h0 hm (2 ^ k)
        have hs : n + k < 18446744073709551616 := by omega
        have e1 : PM.R m m.log2 (PM.C (PM.R m m.log2 (2 ^ n)) (PM.R m m.log2 (2 ^ k))) = PM.R m m.log2 (2 ^ (n + k)) := PM.R_pow_add (PM.deg_log2 h0) n k
        obtain ⟨t, ht⟩ : ∃ t, t = n + k := ⟨_, rfl⟩
        have e0 : ((n : Int) + (k : Int)) = (t : Int) := by omega
        rw [← ht] at e1 hs
        clear ht
        go_enter Try.func3, Try.ntmps3
        go_wp2_with (first | (go_at_call 6; refine (awake_any _).mono ?_; rintro e w' ⟨rfl, rfl⟩) | (go_at_call 8; refine (mulMod_any _ _ m _ (by assumption) (by assumption) hm h0).mono ?_; rintro e w' ⟨rfl, rfl⟩) | (go_at_call 7; refine (powMod_any _ m _ (by assumption) hm h0).mono ?_; rintro e w' ⟨rfl, rfl⟩))
        go_ret
        exact ⟨ret_bool (by simp), rfl⟩
theorem polyPowers_walk (a0 : Int) (a1 : Int) (a2 : Int) (w0 : (Lit.int .u64 a0).wf = true) (w1 : (Lit.int .u64 a1).wf = true) (w2 : (Lit.int .u64 a2).wf = true) (w : World) :
    Calls Try.prog 3 #[.int .u64 a0, .int .u64 a1, .int .u64 a2] w fun e w' => e = .returned (.bool true) ∧ Grown w w' := by
  obtain ⟨n, rfl, hn⟩ := nat64 w0
  obtain ⟨k, rfl, hk⟩ := nat64 w1
  obtain ⟨m, rfl, hm⟩ := nat64 w2
  refine (polyPowers_nat n k m w hn hk hm).mono ?_
  rintro e w' ⟨rfl, rfl⟩
  exact ⟨rfl, Grown.refl _⟩
theorem even_div (p : Nat) (w : World) (hp : p < 18446744073709551616) : Calls Try.prog 11 #[.int .u64 p, .int .u64 3] w fun e w' => e = .returned (.tuple #[.int .u64 (PM.Q 3 p), .int .u64 (PM.wt p 64 % 2 : Nat), .int .i64 0]) ∧ w' = w := by
  have h := divMod_any p 3 w hp (by omega) (by omega)
  rw [show (3 : Nat).log2 = 1 by decide +kernel, PM.R3 p 64 hp] at h
  exact h
set_option maxHeartbeats 400000 in
theorem polyEven_nat (p : Nat) (w : World) (hp : p < 18446744073709551616) :
    Calls Try.prog 5 #[.int .u64 p] w fun e w' => e = .returned (.bool true) ∧ w' = w := by
  have hw := PM.wt_le p 64
  have hd := fun w => even_div p w hp
  have hz := fun w => weight_any p w hp
  generalize PM.wt p 64 = z at *
  obtain ⟨y, hy⟩ : ∃ y, y = z % 2 := ⟨_, rfl⟩
  rw [← hy] at hd
  rcases (show y = 0 ∨ y = 1 by omega) with h | h
  · subst h
    have hz2 : (z : Int) % 2 = 0 := by omega
    clear hy
    go_enter Try.func5, Try.ntmps5
    go_wp2_with (first | (go_at_call 6; refine (awake_any _).mono ?_; rintro e w' ⟨rfl, rfl⟩) | (go_at_call 11; refine (hd _).mono ?_; rintro e w' ⟨rfl, rfl⟩) | (go_at_call 12; refine (hz _).mono ?_; rintro e w' ⟨rfl, rfl⟩))
    go_ret
    exact ⟨ret_bool (by simp), rfl⟩
  · subst h
    have hz2 : (z : Int) % 2 = 1 := by omega
    clear hy
    go_enter Try.func5, Try.ntmps5
    go_wp2_with (first | (go_at_call 6; refine (awake_any _).mono ?_; rintro e w' ⟨rfl, rfl⟩) | (go_at_call 11; refine (hd _).mono ?_; rintro e w' ⟨rfl, rfl⟩) | (go_at_call 12; refine (hz _).mono ?_; rintro e w' ⟨rfl, rfl⟩))
    go_ret
    exact ⟨ret_bool (by simp), rfl⟩
theorem polyEven_walk (a0 : Int) (w0 : (Lit.int .u64 a0).wf = true) (w : World) :
    Calls Try.prog 5 #[.int .u64 a0] w fun e w' => e = .returned (.bool true) ∧ Grown w w' := by
  obtain ⟨p, rfl, hp⟩ := nat64 w0
  refine (polyEven_nat p w hp).mono ?_
  rintro e w' ⟨rfl, rfl⟩
  exact ⟨rfl, Grown.refl _⟩

end Go.Proofs.Ytndcphlepobdcab
