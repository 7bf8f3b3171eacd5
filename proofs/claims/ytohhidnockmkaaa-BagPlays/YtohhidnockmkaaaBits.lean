/- What math/bits.Len64 and OnesCount64 answer: the number of bits of a word, and how many of them are 1. -/
import Derived.Test.YtohhidnockmkaaaProg
import Derived.WalkKit
import Derived.WalkSpells
import Derived.Lib.BitFns
import Derived.Test.YtohhidnockmkaaaNums
namespace Go.Proofs.Ytohhidnockmkaaa
open Go.RowKit

theorem ret_int {k : IntKind} {a b : Int} (h : a = b) : Ending.returned (.int k a) = .returned (.int k b) := by rw [h]

theorem ret_bool {a b : Bool} (h : a = b) : Ending.returned (.bool a) = .returned (.bool b) := by rw [h]
theorem ret_word {a : Int} {b : Nat} {k : IntKind} (h : a = (b : Int)) : Value.int k a = .int k b := by rw [h]

theorem fold_tab (a b c d : List UInt8) (h : (⟨((a.append b).append (c.append d)).toArray⟩ : ByteArray) = Lib.len8tab) : Value.string ⟨((a.append b).append (c.append d)).toArray⟩ = .string Lib.len8tab := by rw [h]

theorem tab_fin : ∀ n : Fin 256, Lib.len8 (n.val : Int) = (PM.bl n.val : Int) := by decide +kernel
theorem tab_bl (n : Nat) (h : n < 256) : Lib.len8 (n : Int) = (PM.bl n : Int) := tab_fin ⟨n, h⟩

theorem bl_shift (k x : Nat) (h : 2 ^ k ≤ x) : PM.bl x = k + PM.bl (x / 2 ^ k) := by
  have hp : 0 < 2 ^ k := Nat.two_pow_pos k
  have h1 : x / 2 ^ k ≠ 0 := by
    intro e
    have := (Nat.div_eq_zero_iff).1 e
    omega
  have hx : x ≠ 0 := by omega
  have a := Nat.log2_self_le h1
  have b := @Nat.lt_log2_self (x / 2 ^ k)
  have e : x.log2 = (x / 2 ^ k).log2 + k := (Nat.log2_eq_iff hx).2
    ⟨by rw [Nat.pow_add]; exact (Nat.le_div_iff_mul_le hp).1 a, by rw [show (x / 2 ^ k).log2 + k + 1 = ((x / 2 ^ k).log2 + 1) + k by omega, Nat.pow_add]; exact (Nat.div_lt_iff_lt_mul hp).1 b⟩
  rw [PM.bl_pos hx, PM.bl_pos h1, e]; omega

theorem tab_shift (k x : Nat) (h : 2 ^ k ≤ x) (h2 : x / 2 ^ k < 256) (u : Int) (hu : u = (x / 2 ^ k : Nat)) : (k : Int) + Lib.len8 u = (PM.bl x : Nat) := by
  rw [hu, tab_bl _ h2, bl_shift k x h]; omega

theorem tab_le (u : Int) (h0 : 0 ≤ u) (h1 : u ≤ 255) : 0 ≤ Lib.len8 u ∧ Lib.len8 u ≤ 8 := by
  obtain ⟨n, rfl⟩ := Int.eq_ofNat_of_zero_le h0
  rw [tab_bl n (by omega)]
  have := PM.bl_le (n := n) (k := 8) (by omega)
  omega
theorem tab_run (u : Int) (h0 : 0 ≤ u) (h1 : u ≤ 255) : ∃ z : Int, Lib.len8 u = z ∧ 0 ≤ z ∧ z ≤ 8 ∧
    ∀ t w, Try.prog.underlying t = some .string → (Instr.index t (.string Lib.len8tab) (.int .u8 u)).run Try.prog w = .ok (.int .u8 z) w :=
  ⟨_, rfl, (tab_le u h0 h1).1, (tab_le u h0 h1).2, fun t w h => Lib.run_index_len8tab w t .u8 u h h0 h1⟩


end Go.Proofs.Ytohhidnockmkaaa
