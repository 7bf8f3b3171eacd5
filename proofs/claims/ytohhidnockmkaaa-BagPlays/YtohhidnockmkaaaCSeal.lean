/- Bytes as strings; the reference's Valid. -/
import Derived.Test.YtohhidnockmkaaaCref
import Derived.Test.YtohhidnockmkaaaStrs
import Derived.Laws.BytesString
import Derived.Deep.RegionWith
import Derived.Deep.DeepCutAuto
namespace Go.Proofs.Ytohhidnockmkaaa
open Go.RowKit

theorem by0 (a b c d : Nat) (hb : b < 256) (hc : c < 256) (hd : d < 256) : (a * 16777216 + b * 65536 + c * 256 + d) / 16777216 = a := by omega
theorem by1 (a b c d : Nat) (hc : c < 256) (hd : d < 256) : (a * 16777216 + b * 65536 + c * 256 + d) / 65536 = a * 256 + b := by omega
theorem by2 (a b c d : Nat) (hd : d < 256) : (a * 16777216 + b * 65536 + c * 256 + d) / 256 = a * 65536 + b * 256 + c := by omega
theorem w4_iff (bs : Nat → Nat) (n k : Nat) (hk : k < 4294967296) (h0 : bs n < 256) (h1 : bs (n + 1) < 256) (h2 : bs (n + 2) < 256) (h3 : bs (n + 3) < 256) :
    (∀ i, i < 4 → bs (n + i) = PM.w4 k i) ↔ bs n * 16777216 + bs (n + 1) * 65536 + bs (n + 2) * 256 + bs (n + 3) = k := by
  have hv := PM.V_w4 k hk
  rw [PM.V4 _ (fun i _ => PM.w4_lt k i)] at hv
  constructor
  · intro h
    have e0 := h 0 (by omega)
    rw [Nat.add_zero] at e0
    rw [e0, h 1 (by omega), h 2 (by omega), h 3 (by omega)]
    exact hv
  · intro h
    have c0 : PM.w4 k 0 = bs n := by
      unfold PM.w4
      rw [if_pos rfl, ← h, by0 _ _ _ _ h1 h2 h3, Nat.mod_eq_of_lt h0]
    have c1 : PM.w4 k 1 = bs (n + 1) := by
      unfold PM.w4
      rw [if_neg (by omega), if_pos rfl, ← h, by1 _ _ _ _ h2 h3]
      omega
    have c2 : PM.w4 k 2 = bs (n + 2) := by
      unfold PM.w4
      rw [if_neg (by omega), if_neg (by omega), if_pos rfl, ← h, by2 _ _ _ _ h3]
      omega
    have c3 : PM.w4 k 3 = bs (n + 3) := by
      unfold PM.w4
      rw [if_neg (by omega), if_neg (by omega), if_neg (by omega), ← h]
      omega
    intro i hi
    by_cases e0 : i = 0
    · rw [e0, c0, Nat.add_zero]
    · by_cases e1 : i = 1
      · rw [e1, c1]
      · by_cases e2 : i = 2
        · rw [e2, c2]
        · rw [show i = 3 by omega, c3]

end Go.Proofs.Ytohhidnockmkaaa
