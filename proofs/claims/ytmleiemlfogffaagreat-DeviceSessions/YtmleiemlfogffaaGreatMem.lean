/- What the reference's functions that make memory answer: Bits, MulMod, PowMod, Of. -/
import Derived.Test.YtmleiemlfogffaaGreatRefs
namespace Go.Proofs.YtmleiemlfogffaaGreat
set_option maxRecDepth 100000
open Go.RowKit

theorem grown_trans {a b c : World} (h1 : Grown a b) (h2 : Grown b c) : Grown a c :=
  ⟨World.keptBut_trans h1.1 h2.1, fun x => (h2.2.1 x).trans (h1.2.1 x), Nat.le_trans h1.2.2 h2.2.2⟩

/-- New blocks alone, and the tape as it was. -/
structure Grew (w w' : World) : Prop where
  grown : Grown w w'
  below : Below w.heap.size w w'
theorem grew_trans {a b c : World} (h1 : Grew a b) (h2 : Grew b c) : Grew a c :=
  ⟨grown_trans h1.grown h2.grown, h1.below.trans (h2.below.mono h1.below.size)⟩
theorem grew_alloc (w : World) (A : Array Value) (t : TypeId) : Grew w (w.alloc (.cells A t)) := ⟨(Grown.refl w).alloc A t, (Below.refl _ _).alloc (Nat.le_refl _) _⟩
theorem dbl_num (r : Nat) : (r : Int) * 2 = ((2 * r : Nat) : Int) := by omega
theorem dbl_one (r : Nat) (hr : r < 9223372036854775808) : bits .xor .u64 ((r : Int) * 2) 1 = ((2 * r + 1 : Nat) : Int) := by
  rw [dbl_num r]
  have h := xor_nat (2 * r) 1 (by omega) (by omega)
  rw [← PM.dbl_add r 1 (by omega)] at h
  exact h

set_option maxHeartbeats 1000000 in
theorem bits_any (b off n cap m : Nat) (f : Nat → Bool) (w : World) (hn : n ≤ 140737488355328) (hm : m < 18446744073709551616) (h0 : m ≠ 0)
    (hc : ∀ i, i < n → w.cell? ⟨b, off + i, none⟩ = some (.bool (f i))) :
    Calls Tryz.prog 141 #[.slice (some ⟨b, off, none⟩) n cap, .int .u64 m] w fun e w' => e = .returned (.int .u64 (PM.R m m.log2 (PM.V f n) : Nat)) ∧ w' = w := by
  have hl := PM.log2_lt64 h0 hm
  have hd2 : Hid (PM.bl m = m.log2 + 1) := PM.bl_pos h0
  have hd3 : m.log2 + 1 ≤ PM.bl m ∧ PM.bl m ≤ m.log2 + 1 := by have := hd2.out; omega
  by_cases hz : m.log2 = 0
  · have hR := PM.R_lt (PM.deg_log2 h0) (PM.V f n)
    have hz1 : ((PM.bl m : Int) - 1 == 0) = true := by simp; omega
    clear hc
    have HR : Hid (PM.R m m.log2 (PM.V f n) = 0) := by rw [hz] at hR; show PM.R m m.log2 (PM.V f n) = 0; rw [hz]; omega
    clear hR hz
    go_enter Tryz.func141, Tryz.ntmps141
    go_wp2_with (go_at_call 177; refine (refDegree_any _ _ (by assumption)).mono ?_; rintro e w' ⟨rfl, rfl⟩)
    go_ret
    exact ⟨ret_int (by rw [HR.out]; rfl), rfl⟩
  · have hz1 : ((PM.bl m : Int) - 1 == 0) = false := by simp; omega
    go_enter Tryz.func141, Tryz.ntmps141
    go_wp2_with (go_at_call 177; refine (refDegree_any _ _ (by assumption)).mono ?_; rintro e w' ⟨rfl, rfl⟩)
    go_loop [6, 7, 8] (fun r c _ => ∃ i : Nat, i ≤ n ∧ c = .int .i64 i ∧ r = .int .u64 (PM.R m m.log2 (PM.V f i) : Nat)) (fun _ c _ => n - (intOf c).toNat)
    case atStart => exact ⟨0, by omega, rfl, rfl⟩
    case round =>
      obtain ⟨i, hi, rfl, rfl⟩ := hrel
      have hr := PM.R_lt (PM.deg_log2 h0) (PM.V f i)
      have hr2 : PM.R m m.log2 (PM.V f i) < 9223372036854775808 := Nat.lt_of_lt_of_le hr (show 2 ^ m.log2 ≤ 2 ^ 63 from Nat.pow_le_pow_right (by omega) (by omega))
      by_cases hlt : i < n
      · have hcell := hc i hlt
        have HV : Hid (PM.R m m.log2 (PM.V f (i + 1)) = PM.stp m m.log2 (2 * PM.R m m.log2 (PM.V f i) + (f i).toNat)) := PM.R_V m _ f i
        have HT := PM.top_bit (PM.R m m.log2 (PM.V f i)) m.log2 ((f i).toNat) (by have := Bool.toNat_le (f i); omega) (by omega)
        generalize PM.R m m.log2 (PM.V f i) = r at *
        cases hfi : f i
        · cases hbit : r.testBit (m.log2 - 1)
          · have t1 : (bits .and .u64 ((r : Int) / 2 ^ (PM.bl m - 1 - 1)) 1 != 0) = false := by rw [show PM.bl m - 1 - 1 = m.log2 - 1 by omega, bit_not' r _ (by omega) (by omega)]; exact hbit
            rw [hfi] at hcell
            have HT2 : Hid (PM.stp m m.log2 (2 * r + (f i).toNat) = 2 * r) := by
              show PM.stp m m.log2 (2 * r + (f i).toNat) = 2 * r
              rw [hfi] at HT ⊢
              rw [PM.stp, HT, hbit]; rfl
            clear HT hc hfi
            go_wp2
            go_round
            case rel => exact ⟨i + 1, by omega, by go_num, ret_word (by rw [HV.out, HT2.out]; omega)⟩
            case measure => simp [intOf] <;> omega
          · have t1 : (bits .and .u64 ((r : Int) / 2 ^ (PM.bl m - 1 - 1)) 1 != 0) = true := by rw [show PM.bl m - 1 - 1 = m.log2 - 1 by omega, bit_not' r _ (by omega) (by omega)]; exact hbit
            rw [hfi] at hcell
            have HT2 : Hid (PM.stp m m.log2 (2 * r + (f i).toNat) = 2 * r ^^^ m) := by
              show PM.stp m m.log2 (2 * r + (f i).toNat) = 2 * r ^^^ m
              rw [hfi] at HT ⊢
              rw [PM.stp, HT, hbit]; rfl
            clear HT hc hfi
            go_wp2
            go_round
            case rel => exact ⟨i + 1, by omega, by go_num, ret_word (by rw [HV.out, HT2.out, dbl_num r]; exact xor_nat _ _ (by omega) hm)⟩
            case measure => simp [intOf] <;> omega
        · cases hbit : r.testBit (m.log2 - 1)
          · have t1 : (bits .and .u64 ((r : Int) / 2 ^ (PM.bl m - 1 - 1)) 1 != 0) = false := by rw [show PM.bl m - 1 - 1 = m.log2 - 1 by omega, bit_not' r _ (by omega) (by omega)]; exact hbit
            rw [hfi] at hcell
            have HT2 : Hid (PM.stp m m.log2 (2 * r + (f i).toNat) = 2 * r + 1) := by
              show PM.stp m m.log2 (2 * r + (f i).toNat) = 2 * r + 1
              rw [hfi] at HT ⊢
              rw [PM.stp, HT, hbit]; rfl
            clear HT hc hfi
            go_wp2
            go_round
            case rel => exact ⟨i + 1, by omega, by go_num, ret_word (by rw [HV.out, HT2.out]; exact dbl_one r hr2)⟩
            case measure => simp [intOf] <;> omega
          · have t1 : (bits .and .u64 ((r : Int) / 2 ^ (PM.bl m - 1 - 1)) 1 != 0) = true := by rw [show PM.bl m - 1 - 1 = m.log2 - 1 by omega, bit_not' r _ (by omega) (by omega)]; exact hbit
            rw [hfi] at hcell
            have HT2 : Hid (PM.stp m m.log2 (2 * r + (f i).toNat) = (2 * r + 1) ^^^ m) := by
              show PM.stp m m.log2 (2 * r + (f i).toNat) = (2 * r + 1) ^^^ m
              rw [hfi] at HT ⊢
              rw [PM.stp, HT, hbit]; rfl
            clear HT hc hfi
            go_wp2
            go_round
            case rel => exact ⟨i + 1, by omega, by go_num, ret_word (by rw [HV.out, HT2.out, dbl_one r hr2]; exact xor_nat _ _ (by omega) hm)⟩
            case measure => simp [intOf] <;> omega
      · clear hc
        go_wp2
        go_ret
        exact ⟨ret_int (by rw [show i = n by omega]), rfl⟩

end Go.Proofs.YtmleiemlfogffaaGreat
