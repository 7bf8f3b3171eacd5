/- What math/bits.Len64 and OnesCount64 answer: the number of bits of a word, and how many of them are 1. -/
import Derived.Test.YtlnfkgnlagadaaaProg
import Derived.WalkKit
import Derived.WalkSpells
import Derived.Lib.BitFns
import Derived.Test.YtlnfkgnlagadaaaNums
namespace Go.Proofs.Ytlnfkgnlagadaaa
open Go.RowKit

theorem ret_int {k : IntKind} {a b : Int} (h : a = b) : Ending.returned (.int k a) = .returned (.int k b) := by rw [h]

theorem ret_bool {a b : Bool} (h : a = b) : Ending.returned (.bool a) = .returned (.bool b) := by rw [h]
theorem ret_word {a : Int} {b : Nat} {k : IntKind} (h : a = (b : Int)) : Value.int k a = .int k b := by rw [h]

theorem fold_tab (a b c d : List UInt8) (h : (⟨((a.append b).append (c.append d)).toArray⟩ : ByteArray) = Lib.len8tab) : Value.string ⟨((a.append b).append (c.append d)).toArray⟩ = .string Lib.len8tab := by rw [h]

theorem tab_fin : ∀ n : Fin 256, Lib.len8 (n.val : Int) = (PM.bl n.val : Int) := by decide +kernel
theorem tab_bl (n : Nat) (h : n < 256) : Lib.len8 (n : Int) = (PM.bl n : Int) := tab_fin ⟨n, h⟩

theorem bl_shift (k x : Nat) (h : 2 ^ k ≤ x) : PM.bl x = k + PM.bl (x / 2 ^ k) := by
  have hp : 0 < 2 ^ k := Nat.two_pow_pos k
  have h1 : x / 2 ^ k ≠ 0 := by
    intro e
    have := (Nat.div_eq_zero_iff).1 e
    omega
  have hx : x ≠ 0 := by omega
  have a := Nat.log2_self_le h1
  have b := @Nat.lt_log2_self (x / 2 ^ k)
  have e : x.log2 = (x / 2 ^ k).log2 + k := (Nat.log2_eq_iff hx).2
    ⟨by rw [Nat.pow_add]; exact (Nat.le_div_iff_mul_le hp).1 a, by rw [show (x / 2 ^ k).log2 + k + 1 = ((x / 2 ^ k).log2 + 1) + k by omega, Nat.pow_add]; exact (Nat.div_lt_iff_lt_mul hp).1 b⟩
  rw [PM.bl_pos hx, PM.bl_pos h1, e]; omega

theorem tab_shift (k x : Nat) (h : 2 ^ k ≤ x) (h2 : x / 2 ^ k < 256) (u : Int) (hu : u = (x / 2 ^ k : Nat)) : (k : Int) + Lib.len8 u = (PM.bl x : Nat) := by
  rw [hu, tab_bl _ h2, bl_shift k x h]; omega

theorem tab_le (u : Int) (h0 : 0 ≤ u) (h1 : u ≤ 255) : 0 ≤ Lib.len8 u ∧ Lib.len8 u ≤ 8 := by
  obtain ⟨n, rfl⟩ := Int.eq_ofNat_of_zero_le h0
  rw [tab_bl n (by omega)]
  have := PM.bl_le (n := n) (k := 8) (by omega)
  omega
theorem tab_run (u : Int) (h0 : 0 ≤ u) (h1 : u ≤ 255) : ∃ z : Int, Lib.len8 u = z ∧ 0 ≤ z ∧ z ≤ 8 ∧
    ∀ t w, Try.prog.underlying t = some .string → (Instr.index t (.string Lib.len8tab) (.int .u8 u)).run Try.prog w = .ok (.int .u8 z) w :=
  ⟨_, rfl, (tab_le u h0 h1).1, (tab_le u h0 h1).2, fun t w h => Lib.run_index_len8tab w t .u8 u h h0 h1⟩

set_option maxHeartbeats 400000 in
theorem len64_8 (x : Int) (w : World) (h0 : 0 ≤ x) (hx : x < 18446744073709551616) (h1 : x < 256) :
    Calls Try.prog 55 #[.int .u64 x] w fun e w' => e = .returned (.int .i64 (0 + Lib.len8 (x))) ∧ w' = w := by
  obtain ⟨z, hz, l0, l1, hr⟩ := tab_run (x) (by omega) (by omega)
  rw [hz]
  clear hz
  go_enter Try.func55, Try.ntmps55
  rw [fold_tab]
  case h => kernel_rfl
  generalize Lib.len8tab = T at hr ⊢
  go_wp2
  go_ret
  exact ⟨ret_int (by omega), rfl⟩
set_option maxHeartbeats 400000 in
theorem len64_16 (x : Int) (w : World) (h0 : 0 ≤ x) (hx : x < 18446744073709551616) (h1 : 256 ≤ x) (h2 : x < 65536) :
    Calls Try.prog 55 #[.int .u64 x] w fun e w' => e = .returned (.int .i64 (8 + Lib.len8 (x / 256))) ∧ w' = w := by
  obtain ⟨z, hz, l0, l1, hr⟩ := tab_run (x / 256) (by omega) (by omega)
  rw [hz]
  clear hz
  go_enter Try.func55, Try.ntmps55
  rw [fold_tab]
  case h => kernel_rfl
  generalize Lib.len8tab = T at hr ⊢
  go_wp2
  go_ret
  exact ⟨ret_int (by omega), rfl⟩
set_option maxHeartbeats 400000 in
theorem len64_24 (x : Int) (w : World) (h0 : 0 ≤ x) (hx : x < 18446744073709551616) (h1 : 65536 ≤ x) (h2 : x < 16777216) :
    Calls Try.prog 55 #[.int .u64 x] w fun e w' => e = .returned (.int .i64 (16 + Lib.len8 (x / 65536))) ∧ w' = w := by
  obtain ⟨z, hz, l0, l1, hr⟩ := tab_run (x / 65536) (by omega) (by omega)
  rw [hz]
  clear hz
  go_enter Try.func55, Try.ntmps55
  rw [fold_tab]
  case h => kernel_rfl
  generalize Lib.len8tab = T at hr ⊢
  go_wp2
  go_ret
  exact ⟨ret_int (by omega), rfl⟩
set_option maxHeartbeats 400000 in
theorem len64_32 (x : Int) (w : World) (h0 : 0 ≤ x) (hx : x < 18446744073709551616) (h1 : 16777216 ≤ x) (h2 : x < 4294967296) :
    Calls Try.prog 55 #[.int .u64 x] w fun e w' => e = .returned (.int .i64 (24 + Lib.len8 (x / 65536 / 256))) ∧ w' = w := by
  obtain ⟨z, hz, l0, l1, hr⟩ := tab_run (x / 65536 / 256) (by omega) (by omega)
  rw [hz]
  clear hz
  go_enter Try.func55, Try.ntmps55
  rw [fold_tab]
  case h => kernel_rfl
  generalize Lib.len8tab = T at hr ⊢
  go_wp2
  go_ret
  exact ⟨ret_int (by omega), rfl⟩
set_option maxHeartbeats 400000 in
theorem len64_40 (x : Int) (w : World) (h0 : 0 ≤ x) (hx : x < 18446744073709551616) (h1 : 4294967296 ≤ x) (h2 : x < 1099511627776) :
    Calls Try.prog 55 #[.int .u64 x] w fun e w' => e = .returned (.int .i64 (32 + Lib.len8 (x / 4294967296))) ∧ w' = w := by
  obtain ⟨z, hz, l0, l1, hr⟩ := tab_run (x / 4294967296) (by omega) (by omega)
  rw [hz]
  clear hz
  go_enter Try.func55, Try.ntmps55
  rw [fold_tab]
  case h => kernel_rfl
  generalize Lib.len8tab = T at hr ⊢
  go_wp2
  go_ret
  exact ⟨ret_int (by omega), rfl⟩
set_option maxHeartbeats 400000 in
theorem len64_48 (x : Int) (w : World) (h0 : 0 ≤ x) (hx : x < 18446744073709551616) (h1 : 1099511627776 ≤ x) (h2 : x < 281474976710656) :
    Calls Try.prog 55 #[.int .u64 x] w fun e w' => e = .returned (.int .i64 (40 + Lib.len8 (x / 4294967296 / 256))) ∧ w' = w := by
  obtain ⟨z, hz, l0, l1, hr⟩ := tab_run (x / 4294967296 / 256) (by omega) (by omega)
  rw [hz]
  clear hz
  go_enter Try.func55, Try.ntmps55
  rw [fold_tab]
  case h => kernel_rfl
  generalize Lib.len8tab = T at hr ⊢
  go_wp2
  go_ret
  exact ⟨ret_int (by omega), rfl⟩
set_option maxHeartbeats 400000 in
theorem len64_56 (x : Int) (w : World) (h0 : 0 ≤ x) (hx : x < 18446744073709551616) (h1 : 281474976710656 ≤ x) (h2 : x < 72057594037927936) :
    Calls Try.prog 55 #[.int .u64 x] w fun e w' => e = .returned (.int .i64 (48 + Lib.len8 (x / 4294967296 / 65536))) ∧ w' = w := by
  obtain ⟨z, hz, l0, l1, hr⟩ := tab_run (x / 4294967296 / 65536) (by omega) (by omega)
  rw [hz]
  clear hz
  go_enter Try.func55, Try.ntmps55
  rw [fold_tab]
  case h => kernel_rfl
  generalize Lib.len8tab = T at hr ⊢
  go_wp2
  go_ret
  exact ⟨ret_int (by omega), rfl⟩
set_option maxHeartbeats 400000 in
theorem len64_64 (x : Int) (w : World) (h0 : 0 ≤ x) (hx : x < 18446744073709551616) (h1 : 72057594037927936 ≤ x) :
    Calls Try.prog 55 #[.int .u64 x] w fun e w' => e = .returned (.int .i64 (56 + Lib.len8 (x / 4294967296 / 65536 / 256))) ∧ w' = w := by
  obtain ⟨z, hz, l0, l1, hr⟩ := tab_run (x / 4294967296 / 65536 / 256) (by omega) (by omega)
  rw [hz]
  clear hz
  go_enter Try.func55, Try.ntmps55
  rw [fold_tab]
  case h => kernel_rfl
  generalize Lib.len8tab = T at hr ⊢
  go_wp2
  go_ret
  exact ⟨ret_int (by omega), rfl⟩
theorem len64_any (x : Nat) (w : World) (hx : x < 18446744073709551616) :
    Calls Try.prog 55 #[.int .u64 x] w fun e w' => e = .returned (.int .i64 (PM.bl x : Nat)) ∧ w' = w := by
  by_cases c0 : x < 256
  · refine (len64_8 x w (by omega) (by omega) (by omega)).mono fun e w' h => ?_
    obtain ⟨h1, h2⟩ := h
    exact ⟨h1.trans (ret_int ((Int.zero_add _).trans (tab_bl x (by omega)))), h2⟩
  by_cases c1 : x < 65536
  · refine (len64_16 x w (by omega) (by omega) (by omega) (by omega)).mono fun e w' h => ?_
    obtain ⟨h1, h2⟩ := h
    exact ⟨h1.trans (ret_int (tab_shift 8 x (by omega) (by omega) _ (by omega))), h2⟩
  by_cases c2 : x < 16777216
  · refine (len64_24 x w (by omega) (by omega) (by omega) (by omega)).mono fun e w' h => ?_
    obtain ⟨h1, h2⟩ := h
    exact ⟨h1.trans (ret_int (tab_shift 16 x (by omega) (by omega) _ (by omega))), h2⟩
  by_cases c3 : x < 4294967296
  · refine (len64_32 x w (by omega) (by omega) (by omega) (by omega)).mono fun e w' h => ?_
    obtain ⟨h1, h2⟩ := h
    exact ⟨h1.trans (ret_int (tab_shift 24 x (by omega) (by omega) _ (by omega))), h2⟩
  by_cases c4 : x < 1099511627776
  · refine (len64_40 x w (by omega) (by omega) (by omega) (by omega)).mono fun e w' h => ?_
    obtain ⟨h1, h2⟩ := h
    exact ⟨h1.trans (ret_int (tab_shift 32 x (by omega) (by omega) _ (by omega))), h2⟩
  by_cases c5 : x < 281474976710656
  · refine (len64_48 x w (by omega) (by omega) (by omega) (by omega)).mono fun e w' h => ?_
    obtain ⟨h1, h2⟩ := h
    exact ⟨h1.trans (ret_int (tab_shift 40 x (by omega) (by omega) _ (by omega))), h2⟩
  by_cases c6 : x < 72057594037927936
  · refine (len64_56 x w (by omega) (by omega) (by omega) (by omega)).mono fun e w' h => ?_
    obtain ⟨h1, h2⟩ := h
    exact ⟨h1.trans (ret_int (tab_shift 48 x (by omega) (by omega) _ (by omega))), h2⟩
  refine (len64_64 x w (by omega) (by omega) (by omega)).mono fun e w' h => ?_
  obtain ⟨h1, h2⟩ := h
  exact ⟨h1.trans (ret_int (tab_shift 56 x (by omega) (by omega) _ (by omega))), h2⟩

end Go.Proofs.Ytlnfkgnlagadaaa
