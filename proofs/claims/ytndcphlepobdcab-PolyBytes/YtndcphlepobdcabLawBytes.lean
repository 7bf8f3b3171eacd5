/- The walk of the statement PolyBytes: Of of two lists one behind the other. -/
import Derived.Test.YtndcphlepobdcabLaw01
import Derived.Test.YtndcphlepobdcabOf
namespace Go.Proofs.Ytndcphlepobdcab
open Go.RowKit

/-- The first n of f, then g. -/
def cat (f g : Nat → Nat) (n i : Nat) : Nat := if i < n then f i else g (i - n)
theorem cat_V (f g : Nat → Nat) (n k : Nat) : PM.V (PM.fb (cat f g n)) (8 * (n + k)) = PM.C (PM.V (PM.fb f) (8 * n)) (2 ^ (8 * k)) ^^^ PM.V (PM.fb g) (8 * k) := by
  rw [Nat.mul_add, PM.V_add]
  congr 1
  · congr 1
    apply PM.V_congr
    intro i hi
    unfold PM.fb cat
    rw [if_pos (by omega)]
  · apply PM.V_congr
    intro i hi
    unfold PM.fb cat
    rw [if_neg (by omega), show (8 * n + i) / 8 - n = i / 8 by omega, show (8 * n + i) % 8 = i % 8 by omega]
theorem cat_CB (f g : Nat → Nat) (n m : Nat) : CB f n ++ CB g m = CB (cat f g n) (n + m) := CB_append f g n m

theorem info_u8 : (Try.prog.info? 5).map (fun i => (i.zero, i.size, i.bytes)) = some (some (.int .u8 0), 1, 1) := by kernel_rfl
theorem build0 (w : World) : (Instr.buildSlice 29 0 #[]).run Try.prog w = .ok (.slice (some ⟨w.heap.size, 0, none⟩) 0 0) (w.alloc (.cells #[] 5)) := by kernel_rfl

set_option maxHeartbeats 400000 in
theorem polyBytes_long (a0 : Option Addr) (len0 cap0 : Nat) (a1 : Option Addr) (len1 cap1 m : Nat) (w : World) (hl0 : len0 ≤ 9223372036854775807) (hl1 : len1 ≤ 9223372036854775807) (h : 2000 < len0 ∨ 2000 < len1) :
    Calls Try.prog 4 #[.slice a0 len0 cap0, .slice a1 len1 cap1, .int .u64 m] w fun e w' => e = .returned (.bool true) ∧ w' = w := by
  by_cases h1 : 2000 < len0
  · clear h
    go_enter Try.func4, Try.ntmps4
    go_wp2_with (go_at_call 6; refine (awake_any _).mono ?_; rintro e w' ⟨rfl, rfl⟩)
    go_ret
    exact ⟨rfl, rfl⟩
  · have h2 : 2000 < len1 := by omega
    clear h
    go_enter Try.func4, Try.ntmps4
    go_wp2_with (go_at_call 6; refine (awake_any _).mono ?_; rintro e w' ⟨rfl, rfl⟩)
    go_ret
    exact ⟨rfl, rfl⟩
set_option maxHeartbeats 400000 in
theorem polyBytes_zero (a0 : Option Addr) (len0 cap0 : Nat) (a1 : Option Addr) (len1 cap1 : Nat) (w : World) (hl0 : len0 ≤ 2000) (hl1 : len1 ≤ 2000) :
    Calls Try.prog 4 #[.slice a0 len0 cap0, .slice a1 len1 cap1, .int .u64 0] w fun e w' => e = .returned (.bool true) ∧ w' = w := by
  go_enter Try.func4, Try.ntmps4
  go_wp2_with (first | (go_at_call 6; refine (awake_any _).mono ?_; rintro e w' ⟨rfl, rfl⟩) | (go_at_call 9; refine (of_zero _ _ _ _).mono ?_; rintro e w' ⟨rfl, rfl⟩) | (go_at_call 10; refine (refOf_zero _ _ _ _).mono ?_; rintro e w' ⟨rfl, rfl⟩))
  go_ret
  exact ⟨rfl, rfl⟩
set_option maxHeartbeats 1000000 in
theorem polyBytes_any (a0 : Option Addr) (len0 cap0 : Nat) (a1 : Option Addr) (len1 cap1 m : Nat) (b0 b1 : Nat → Nat) (w : World) (r0 : Row8 w a0 len0 cap0 b0) (r1 : Row8 w a1 len1 cap1 b1) (hl0 : len0 ≤ 2000) (hl1 : len1 ≤ 2000) (hm : m < 18446744073709551616) (h0 : m ≠ 0) :
    Calls Try.prog 4 #[.slice a0 len0 cap0, .slice a1 len1 cap1, .int .u64 m] w fun e w' => e = .returned (.bool true) ∧ Below w.heap.size w w' := by
  have hz : ((m : Int) == 0) = false := by simpa using h0
  have hX := R_lt64 h0 hm (PM.V (PM.fb b0) (8 * len0))
  have hZ := R_lt64 h0 hm (PM.V (PM.fb b1) (8 * len1))
  have hS := R_lt64 h0 hm (2 ^ (8 * len1))
  have hM := R_lt64 h0 hm (PM.C (PM.R m m.log2 (PM.V (PM.fb b0) (8 * len0))) (PM.R m m.log2 (2 ^ (8 * len1))))
  have HE : bits .xor .u64 ((PM.R m m.log2 (PM.C (PM.R m m.log2 (PM.V (PM.fb b0) (8 * len0))) (PM.R m m.log2 (2 ^ (8 * len1)))) : Nat) : Int) ((PM.R m m.log2 (PM.V (PM.fb b1) (8 * len1)) : Nat) : Int) = ((PM.R m m.log2 (PM.V (PM.fb (cat b0 b1 len0)) (8 * (len0 + len1))) : Nat) : Int) := by
    rw [xor_nat _ _ hM hZ, cat_V, PM.R_xor, PM.R_C_both (PM.deg_log2 h0)]
  have hcat : ∀ i, i < len0 + len1 → cat b0 b1 len0 i < 256 := fun i hi => by
    unfold cat
    by_cases h : i < len0
    · rw [if_pos h]; exact r0.byte i h
    · rw [if_neg h]; exact r1.byte _ (by omega)
  obtain ⟨i0, hi, hz0, hz1, hz2⟩ := info_parts info_u8
  obtain ⟨t, ht⟩ : ∃ t, t = 8 * len1 := ⟨_, rfl⟩
  have ht1 : (8 : Int) * (len1 : Int) = (t : Int) := by omega
  have ht2 : t < 18446744073709551616 := by omega
  rw [← ht] at hZ hS hM HE
  have H1 := fun w => of_row a0 len0 cap0 m b0 w
  have H3 := fun w => of_row a1 len1 cap1 m b1 w
  rw [← ht] at H3
  clear ht
  have hbd := build0
  go_enter Try.func4, Try.ntmps4
  go_wp2_with (go_at_call 6; refine (awake_any _).mono ?_; rintro e w' ⟨rfl, rfl⟩)
  refine (H1 _ r0 (by omega) hm h0).mono ?_
  rintro e w' ⟨rfl, rfl⟩
  go_wp2_with fail
  refine (refOf_row a0 len0 cap0 m b0 _ r0 (by omega) hm h0).mono ?_
  rintro e w1 ⟨rfl, hbel1⟩
  go_wp2_with fail
  refine (H3 _ (r1.below hbel1) (by omega) hm h0).mono ?_
  rintro e w2 ⟨rfl, rfl⟩
  clear H1 H3
  have hsz2 := hbel1.size
  have hbelA : Below w'.heap.size w' (w2.alloc (.cells #[] 5)) := hbel1.alloc hsz2 _
  have R0 := r0.below hbelA
  have O0 : (w2.alloc (.cells #[] 5)).ownsRow w'.heap.size 5 1 (.slice (some ⟨w2.heap.size, 0, none⟩) 0 0) 0 [] := World.ownsRow_made w2 #[] 0 hsz2 (Nat.zero_le _) rfl
  have hszA := hbelA.size
  go_wp2_with (at_builtin; refine wpList_append_row8 rfl (.tmp 58) (.tmp 59) 29 rfl w'.heap.size 5 i0 (.int .u8 0) Try.underlying29 hi hz0 hz1 hz2 rfl _ 0 [] rfl O0 a0 len0 cap0 b0 rfl R0 (by unfold maxLen; omega) (by omega) hszA ?_)
  intro v1 w3 hown1 hgrow1
  have hbelB : Below w'.heap.size w' w3 := hbelA.grown hgrow1 hszA (fun k hk => (O0.lt k hk).1)
  clear hgrow1 O0 R0
  have R1 := r1.below hbelB
  have hszB := hbelB.size
  go_wp2_with (at_builtin; refine wpList_append_row8 rfl (.tmp 60) (.tmp 61) 29 rfl w'.heap.size 5 i0 (.int .u8 0) Try.underlying29 hi hz0 hz1 hz2 rfl _ _ _ rfl hown1 a1 len1 cap1 b1 rfl R1 (by unfold maxLen; omega) (by omega) hszB ?_)
  intro v2 w4 hown2 hgrow2
  have hbelC : Below w'.heap.size w' w4 := hbelB.grown hgrow2 hszB (fun k hk => (hown1.lt k hk).1)
  clear hgrow2 hown1 R1
  rw [cat_CB] at hown2
  have H5 := of_own v2 (len0 + len1) m w'.heap.size (cat b0 b1 len0) w4 hown2 hcat (by omega) hm h0
  clear hown2 hcat
  go_wp2_with (go_at_call 9; refine H5.mono ?_; rintro e w5 ⟨rfl, rfl⟩)
  refine (powMod_any t m _ ht2 hm h0).mono ?_
  rintro e w6 ⟨rfl, rfl⟩
  go_wp2_with (go_at_call 8; refine (mulMod_any _ _ m _ hX hS hm h0).mono ?_; rintro e w7 ⟨rfl, rfl⟩)
  go_ret
  exact ⟨ret_bool (by simp), hbelC⟩
theorem polyBytes_walk (a0 : Option Addr) (len0 cap0 : Nat) (z0 : List Int) (a1 : Option Addr) (len1 cap1 : Nat) (z1 : List Int) (a2 : Int) (w : World) (w0 : BRow .u8 w a0 len0 cap0 z0) (w1 : BRow .u8 w a1 len1 cap1 z1) (w2 : (Lit.int .u64 a2).wf = true) :
    Calls Try.prog 4 #[.slice a0 len0 cap0, .slice a1 len1 cap1, .int .u64 a2] w fun e w' => e = .returned (.bool true) ∧ Below w.heap.size w w' := by
  obtain ⟨m, rfl, hm⟩ := nat64 w2
  have l0 := w0.len_le
  have l1 := w1.len_le
  have same : ∀ {Z : Ending → World → Prop}, (Z = fun e w' => e = .returned (.bool true) ∧ w' = w) → ∀ e w', Z e w' → e = .returned (.bool true) ∧ Below w.heap.size w w' := by
    rintro Z rfl e w' ⟨h1, rfl⟩
    exact ⟨h1, Below.refl _ _⟩
  by_cases h : len0 ≤ 2000 ∧ len1 ≤ 2000
  · by_cases h0 : m = 0
    · subst h0
      exact (polyBytes_zero a0 len0 cap0 a1 len1 cap1 w h.1 h.2).mono (same rfl)
    · exact polyBytes_any a0 len0 cap0 a1 len1 cap1 m _ _ w w0.row8 w1.row8 h.1 h.2 hm h0
  · exact (polyBytes_long a0 len0 cap0 a1 len1 cap1 m w l0 l1 (by omega)).mono (same rfl)

end Go.Proofs.Ytndcphlepobdcab
