/- What math/bits.Len8, LeadingZeros8, TrailingZeros8, OnesCount8 and Len32 answer. -/
import Derived.Test.YtohhidnockmkaaaBits
import Derived.Test.YtohhidnockmkaaaBmath
namespace Go.Proofs.Ytohhidnockmkaaa
open Go.RowKit

theorem fold_tabT (T : ByteArray) (a b c d : List UInt8) (h : (⟨((a.append b).append (c.append d)).toArray⟩ : ByteArray) = T) : Value.string ⟨((a.append b).append (c.append d)).toArray⟩ = .string T := by rw [h]
theorem pop_fin : ∀ n : Fin 256, Lib.pop8 (n.val : Int) = (PM.wt n.val 8 : Int) := by decide +kernel
theorem ntz_fin : ∀ n : Fin 256, 0 < n.val → Lib.ntz8 (n.val : Int) = (Lib.trailingZeros8 n.val : Int) ∧ Lib.trailingZeros8 n.val < 8 ∧ n.val.testBit (Lib.trailingZeros8 n.val) = true ∧ ∀ k : Fin 8, k.val < Lib.trailingZeros8 n.val → n.val.testBit k.val = false := by decide +kernel
theorem pop_run (x : Nat) (h : x < 256) : ∃ z : Int, z = (PM.wt x 8 : Nat) ∧ 0 ≤ z ∧ z ≤ 8 ∧
    ∀ t w, Try.prog.underlying t = some .string → (Instr.index t (.string Lib.pop8tab) (.int .u8 (x : Nat))).run Try.prog w = .ok (.int .u8 z) w := by
  have e := pop_fin ⟨x, h⟩
  have l := PM.wt_le x 8
  simp only at e
  exact ⟨_, e, by omega, by omega, fun t w h => Lib.run_index_pop8tab w t .u8 x h (by omega) (by omega)⟩
theorem ntz_run (x : Nat) (h : x < 256) (h0 : x ≠ 0) : ∃ z : Nat, z < 8 ∧ x.testBit z = true ∧ (∀ k, k < z → x.testBit k = false) ∧
    ∀ t w, Try.prog.underlying t = some .string → (Instr.index t (.string Lib.ntz8tab) (.int .u8 (x : Nat))).run Try.prog w = .ok (.int .u8 (z : Nat)) w := by
  obtain ⟨e, l, hb, hz⟩ := ntz_fin ⟨x, h⟩ (by show 0 < x; omega)
  simp only at e l hb hz
  exact ⟨_, l, hb, fun k hk => hz ⟨k, by omega⟩ hk, fun t w h => by rw [← e]; exact Lib.run_index_ntz8tab w t .u8 x h (by omega) (by omega)⟩

set_option maxHeartbeats 400000 in
theorem len32_8 (x : Int) (w : World) (h0 : 0 ≤ x) (h1 : x < 256) :
    Calls Try.prog 42 #[.int .u32 x] w fun e w' => e = .returned (.int .i64 (0 + Lib.len8 x)) ∧ w' = w := by
  obtain ⟨z, hz, l0, l1, hr⟩ := tab_run (x) (by omega) (by omega)
  rw [hz]
  clear hz
  go_enter Try.func42, Try.ntmps42
  rw [fold_tabT Lib.len8tab]
  case h => kernel_rfl
  generalize Lib.len8tab = T at hr ⊢
  go_wp2
  go_ret
  exact ⟨ret_int (by omega), rfl⟩
set_option maxHeartbeats 400000 in
theorem len32_16 (x : Int) (w : World) (h0 : 256 ≤ x) (h1 : x < 65536) :
    Calls Try.prog 42 #[.int .u32 x] w fun e w' => e = .returned (.int .i64 (8 + Lib.len8 (x / 256))) ∧ w' = w := by
  obtain ⟨z, hz, l0, l1, hr⟩ := tab_run (x / 256) (by omega) (by omega)
  rw [hz]
  clear hz
  go_enter Try.func42, Try.ntmps42
  rw [fold_tabT Lib.len8tab]
  case h => kernel_rfl
  generalize Lib.len8tab = T at hr ⊢
  go_wp2
  go_ret
  exact ⟨ret_int (by omega), rfl⟩
set_option maxHeartbeats 400000 in
theorem len32_24 (x : Int) (w : World) (h0 : 65536 ≤ x) (h1 : x < 16777216) :
    Calls Try.prog 42 #[.int .u32 x] w fun e w' => e = .returned (.int .i64 (16 + Lib.len8 (x / 65536))) ∧ w' = w := by
  obtain ⟨z, hz, l0, l1, hr⟩ := tab_run (x / 65536) (by omega) (by omega)
  rw [hz]
  clear hz
  go_enter Try.func42, Try.ntmps42
  rw [fold_tabT Lib.len8tab]
  case h => kernel_rfl
  generalize Lib.len8tab = T at hr ⊢
  go_wp2
  go_ret
  exact ⟨ret_int (by omega), rfl⟩
set_option maxHeartbeats 400000 in
theorem len32_32 (x : Int) (w : World) (h0 : 16777216 ≤ x) (h1 : x < 4294967296) :
    Calls Try.prog 42 #[.int .u32 x] w fun e w' => e = .returned (.int .i64 (24 + Lib.len8 (x / 65536 / 256))) ∧ w' = w := by
  obtain ⟨z, hz, l0, l1, hr⟩ := tab_run (x / 65536 / 256) (by omega) (by omega)
  rw [hz]
  clear hz
  go_enter Try.func42, Try.ntmps42
  rw [fold_tabT Lib.len8tab]
  case h => kernel_rfl
  generalize Lib.len8tab = T at hr ⊢
  go_wp2
  go_ret
  exact ⟨ret_int (by omega), rfl⟩
theorem len32_any (x : Nat) (w : World) (hx : x < 4294967296) :
    Calls Try.prog 42 #[.int .u32 x] w fun e w' => e = .returned (.int .i64 (PM.bl x : Nat)) ∧ w' = w := by
  by_cases c0 : x < 256
  · refine (len32_8 x w (by omega) (by omega)).mono fun e w' h => ?_
    exact ⟨h.1.trans (ret_int ((Int.zero_add _).trans (tab_bl x (by omega)))), h.2⟩
  by_cases c1 : x < 65536
  · refine (len32_16 x w (by omega) (by omega)).mono fun e w' h => ?_
    exact ⟨h.1.trans (ret_int (tab_shift 8 x (by omega) (by omega) _ (by omega))), h.2⟩
  by_cases c2 : x < 16777216
  · refine (len32_24 x w (by omega) (by omega)).mono fun e w' h => ?_
    exact ⟨h.1.trans (ret_int (tab_shift 16 x (by omega) (by omega) _ (by omega))), h.2⟩
  refine (len32_32 x w (by omega) (by omega)).mono fun e w' h => ?_
  exact ⟨h.1.trans (ret_int (tab_shift 24 x (by omega) (by omega) _ (by omega))), h.2⟩

end Go.Proofs.Ytohhidnockmkaaa
