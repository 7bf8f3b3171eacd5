/- What the reference's functions that make memory answer: Bits, MulMod, PowMod, Of. -/
import Derived.Test.YtlnfkgnlagadaaaRefs
namespace Go.Proofs.Ytlnfkgnlagadaaa
open Go.RowKit

theorem grown_trans {a b c : World} (h1 : Grown a b) (h2 : Grown b c) : Grown a c :=
  ⟨World.keptBut_trans h1.1 h2.1, fun x => (h2.2.1 x).trans (h1.2.1 x), Nat.le_trans h1.2.2 h2.2.2⟩

/-- New blocks alone, and the tape as it was. -/
structure Grew (w w' : World) : Prop where
  grown : Grown w w'
  below : Below w.heap.size w w'
theorem grew_trans {a b c : World} (h1 : Grew a b) (h2 : Grew b c) : Grew a c :=
  ⟨grown_trans h1.grown h2.grown, h1.below.trans (h2.below.mono h1.below.size)⟩
theorem grew_alloc (w : World) (A : Array Value) (t : TypeId) : Grew w (w.alloc (.cells A t)) := ⟨(Grown.refl w).alloc A t, (Below.refl _ _).alloc (Nat.le_refl _) _⟩
theorem dbl_num (r : Nat) : (r : Int) * 2 = ((2 * r : Nat) : Int) := by omega
theorem dbl_one (r : Nat) (hr : r < 9223372036854775808) : bits .xor .u64 ((r : Int) * 2) 1 = ((2 * r + 1 : Nat) : Int) := by
  rw [dbl_num r]
  have h := xor_nat (2 * r) 1 (by omega) (by omega)
  rw [← PM.dbl_add r 1 (by omega)] at h
  exact h

set_option maxHeartbeats 1000000 in
theorem bits_any (b off n cap m : Nat) (f : Nat → Bool) (w : World) (hn : n ≤ 140737488355328) (hm : m < 18446744073709551616) (h0 : m ≠ 0)
    (hc : ∀ i, i < n → w.cell? ⟨b, off + i, none⟩ = some (.bool (f i))) :
    Calls Try.prog 41 #[.slice (some ⟨b, off, none⟩) n cap, .int .u64 m] w fun e w' => e = .returned (.int .u64 (PM.R m m.log2 (PM.V f n) : Nat)) ∧ w' = w := by
  have hl := PM.log2_lt64 h0 hm
  have hd2 : Hid (PM.bl m = m.log2 + 1) := PM.bl_pos h0
  have hd3 : m.log2 + 1 ≤ PM.bl m ∧ PM.bl m ≤ m.log2 + 1 := by have := hd2.out; omega
  by_cases hz : m.log2 = 0
  · have hR := PM.R_lt (PM.deg_log2 h0) (PM.V f n)
    have hz1 : ((PM.bl m : Int) - 1 == 0) = true := by simp; omega
    clear hc
    have HR : Hid (PM.R m m.log2 (PM.V f n) = 0) := by rw [hz] at hR; show PM.R m m.log2 (PM.V f n) = 0; rw [hz]; omega
    clear hR hz
    go_enter Try.func41, Try.ntmps41
    go_wp2_with (go_at_call 50; refine (refDegree_any _ _ (by assumption)).mono ?_; rintro e w' ⟨rfl, rfl⟩)
    go_ret
    exact ⟨ret_int (by rw [HR.out]; rfl), rfl⟩
  · have hz1 : ((PM.bl m : Int) - 1 == 0) = false := by simp; omega
    go_enter Try.func41, Try.ntmps41
    go_wp2_with (go_at_call 50; refine (refDegree_any _ _ (by assumption)).mono ?_; rintro e w' ⟨rfl, rfl⟩)
    go_loop [6, 7, 8] (fun r c _ => ∃ i : Nat, i ≤ n ∧ c = .int .i64 i ∧ r = .int .u64 (PM.R m m.log2 (PM.V f i) : Nat)) (fun _ c _ => n - (intOf c).toNat)
    case atStart => exact ⟨0, by omega, rfl, rfl⟩
    case round =>
      obtain ⟨i, hi, rfl, rfl⟩ := hrel
      have hr := PM.R_lt (PM.deg_log2 h0) (PM.V f i)
      have hr2 : PM.R m m.log2 (PM.V f i) < 9223372036854775808 := Nat.lt_of_lt_of_le hr (show 2 ^ m.log2 ≤ 2 ^ 63 from Nat.pow_le_pow_right (by omega) (by omega))
      by_cases hlt : i < n
      · have hcell := hc i hlt
        have HV : Hid (PM.R m m.log2 (PM.V f (i + 1)) = PM.stp m m.log2 (2 * PM.R m m.log2 (PM.V f i) + (f i).toNat)) := PM.R_V m _ f i
        have HT := PM.top_bit (PM.R m m.log2 (PM.V f i)) m.log2 ((f i).toNat) (by have := Bool.toNat_le (f i); omega) (by omega)
        generalize PM.R m m.log2 (PM.V f i) = r at *
        cases hfi : f i
        · cases hbit : r.testBit (m.log2 - 1)
          · have t1 : (bits .and .u64 ((r : Int) / 2 ^ (PM.bl m - 1 - 1)) 1 != 0) = false := by rw [show PM.bl m - 1 - 1 = m.log2 - 1 by omega, bit_not' r _ (by omega) (by omega)]; exact hbit
            rw [hfi] at hcell
            have HT2 : Hid (PM.stp m m.log2 (2 * r + (f i).toNat) = 2 * r) := by
              show PM.stp m m.log2 (2 * r + (f i).toNat) = 2 * r
              rw [hfi] at HT ⊢
              rw [PM.stp, HT, hbit]; rfl
            clear HT hc hfi
            go_wp2
            go_round
            case rel => exact ⟨i + 1, by omega, by go_num, ret_word (by rw [HV.out, HT2.out]; omega)⟩
            case measure => simp [intOf] <;> omega
          · have t1 : (bits .and .u64 ((r : Int) / 2 ^ (PM.bl m - 1 - 1)) 1 != 0) = true := by rw [show PM.bl m - 1 - 1 = m.log2 - 1 by omega, bit_not' r _ (by omega) (by omega)]; exact hbit
            rw [hfi] at hcell
            have HT2 : Hid (PM.stp m m.log2 (2 * r + (f i).toNat) = 2 * r ^^^ m) := by
              show PM.stp m m.log2 (2 * r + (f i).toNat) = 2 * r ^^^ m
              rw [hfi] at HT ⊢
              rw [PM.stp, HT, hbit]; rfl
            clear HT hc hfi
            go_wp2
            go_round
            case rel => exact ⟨i + 1, by omega, by go_num, ret_word (by rw [HV.out, HT2.out, dbl_num r]; exact xor_nat _ _ (by omega) hm)⟩
            case measure => simp [intOf] <;> omega
        · cases hbit : r.testBit (m.log2 - 1)
          · have t1 : (bits .and .u64 ((r : Int) / 2 ^ (PM.bl m - 1 - 1)) 1 != 0) = false := by rw [show PM.bl m - 1 - 1 = m.log2 - 1 by omega, bit_not' r _ (by omega) (by omega)]; exact hbit
            rw [hfi] at hcell
            have HT2 : Hid (PM.stp m m.log2 (2 * r + (f i).toNat) = 2 * r + 1) := by
              show PM.stp m m.log2 (2 * r + (f i).toNat) = 2 * r + 1
              rw [hfi] at HT ⊢
              rw [PM.stp, HT, hbit]; rfl
            clear HT hc hfi
            go_wp2
            go_round
            case rel => exact ⟨i + 1, by omega, by go_num, ret_word (by rw [HV.out, HT2.out]; exact dbl_one r hr2)⟩
            case measure => simp [intOf] <;> omega
          · have t1 : (bits .and .u64 ((r : Int) / 2 ^ (PM.bl m - 1 - 1)) 1 != 0) = true := by rw [show PM.bl m - 1 - 1 = m.log2 - 1 by omega, bit_not' r _ (by omega) (by omega)]; exact hbit
            rw [hfi] at hcell
            have HT2 : Hid (PM.stp m m.log2 (2 * r + (f i).toNat) = (2 * r + 1) ^^^ m) := by
              show PM.stp m m.log2 (2 * r + (f i).toNat) = (2 * r + 1) ^^^ m
              rw [hfi] at HT ⊢
              rw [PM.stp, HT, hbit]; rfl
            clear HT hc hfi
            go_wp2
            go_round
            case rel => exact ⟨i + 1, by omega, by go_num, ret_word (by rw [HV.out, HT2.out, dbl_one r hr2]; exact xor_nat _ _ (by omega) hm)⟩
            case measure => simp [intOf] <;> omega
      · clear hc
        go_wp2
        go_ret
        exact ⟨ret_int (by rw [show i = n by omega]), rfl⟩
def arr (g : Nat → Bool) : Array Value := Array.ofFn (n := 127) fun i => Value.bool (g i.val)
theorem arr_get (g : Nat → Bool) (j : Nat) (h : j < 127) : (arr g)[j]? = some (.bool (g j)) := by simp [arr, h]
theorem arr_set (g : Nat → Bool) (j : Nat) : (arr g).setIfInBounds j (.bool (!g j)) = arr (fun i => if i = j then !g i else g i) := by
  apply Array.ext
  · rw [Array.size_setIfInBounds]; simp [arr]
  · intro i h1 h2
    have h3 : i < 127 := by simpa [arr] using h2
    have h4 : i < (arr g).size := by simpa [arr] using h3
    rw [Array.getElem_setIfInBounds h4]
    by_cases e : j = i
    · subst e; simp [arr]
    · rw [if_neg e]; simp [arr, show ¬ i = j from fun h => e h.symm]
theorem V_zero (n : Nat) : PM.V (fun _ => false) n = 0 := by
  induction n with
  | zero => rfl
  | succ n ih => show 2 * PM.V (fun _ => false) n + _ = 0; rw [ih]; rfl
theorem make127 (w : World) : (Instr.makeSlice 75 (.int .i64 127) (.int .i64 127)).run Try.prog w = .ok (.slice (some ⟨w.heap.size, 0, none⟩) 127 127) (w.alloc (.cells (arr fun _ => false) 4)) := by kernel_rfl
set_option maxHeartbeats 400000 in
theorem refMulMod_zero (p q : Nat) (w : World) :
    Calls Try.prog 40 #[.int .u64 p, .int .u64 q, .int .u64 0] w fun e w' => e = .returned (.tuple #[.int .u64 0, .int .i64 10]) ∧ w' = w := by
  go_enter Try.func40, Try.ntmps40
  go_wp2
  go_ret2
  exact ⟨rfl, rfl⟩
set_option maxHeartbeats 1000000 in
theorem refMulMod_any (p q m : Nat) (w : World) (hp : p < 18446744073709551616) (hq : q < 18446744073709551616) (hm : m < 18446744073709551616) (h0 : m ≠ 0) :
    Calls Try.prog 40 #[.int .u64 p, .int .u64 q, .int .u64 m] w fun e w' => e = .returned (.tuple #[.int .u64 (PM.R m m.log2 (PM.C p q) : Nat), .int .i64 0]) ∧ Grew w w' := by
  have hz : ((m : Int) == 0) = false := by simpa using h0
  have hmk := make127
  go_enter Try.func40, Try.ntmps40
  go_wp2_with fail
  clear hmk
  go_loopw [9, 10] (fun c _ wr => ∃ (i : Nat) (g : Nat → Bool) (A : Array Value), i ≤ 64 ∧ c = .int .i64 i ∧ wr = w.alloc (.cells A 4) ∧ A = arr g ∧ PM.V g 127 = PM.cl q p i) (fun c _ _ => 64 - (intOf c).toNat)
  case atStart => exact ⟨0, _, _, by omega, rfl, rfl, rfl, V_zero 127⟩
  case round =>
    obtain ⟨i, g, A, hi, rfl, rfl, hA, hv⟩ := hrel
    have HA : Hid (A = arr g) := hA
    clear hA
    have HV : Hid (PM.V g 127 = PM.cl q p i) := hv
    clear hv
    by_cases hlt : i < 64
    · cases hbit : p.testBit i
      · have t1 : (bits .and .u64 ((p : Int) / 2 ^ i) 1 != 0) = false := by rw [bit_not' p i hp hlt]; exact hbit
        go_wp2
        go_loop [10] (fun c => ∃ k : Nat, k ≤ 64 ∧ c = .int .i64 k) (fun c => 64 - (intOf c).toNat)
        case atStart => exact ⟨0, by omega, rfl⟩
        case round =>
          obtain ⟨k, hk, rfl⟩ := hrel
          by_cases hlt2 : k < 64
          · go_wp2
            go_round
            case rel => exact ⟨k + 1, by omega, by go_num⟩
            case measure => simp [intOf] <;> omega
          · go_wp2
            go_roundw
            case rel => exact ⟨i + 1, g, A, by omega, by go_num, rfl, HA, by rw [PM.cl_false hbit]; exact HV⟩
            case measure => simp [intOf] <;> omega
      · have t1 : (bits .and .u64 ((p : Int) / 2 ^ i) 1 != 0) = true := by rw [bit_not' p i hp hlt]; exact hbit
        go_wp2
        go_loopw [10] (fun c wr => ∃ (k : Nat) (g : Nat → Bool) (A : Array Value), k ≤ 64 ∧ c = .int .i64 k ∧ wr = w.alloc (.cells A 4) ∧ A = arr g ∧ PM.V g 127 = PM.cl q p i ^^^ (q % 2 ^ k) <<< i) (fun c _ => 64 - (intOf c).toNat)
        case atStart => exact ⟨0, g, A, by omega, rfl, rfl, HA, by rw [show q % 2 ^ 0 = 0 by omega, HV.out]; simp⟩
        case round =>
          clear HA HV
          obtain ⟨k, g, A, hk, rfl, rfl, hA, hv⟩ := hrel
          have HA : Hid (A = arr g) := hA
          have HW : Hid (PM.V g 127 = PM.cl q p i ^^^ (q % 2 ^ k) <<< i) := hv
          have hsz : A.size = 127 := by rw [hA]; simp [arr]
          have hget : ∀ j, j < 127 → A[j]? = some (.bool (g j)) := fun j hj => by rw [hA]; exact arr_get g j hj
          clear hv hA
          by_cases hlt2 : k < 64
          · cases hbit2 : q.testBit k
            · have t2 : (bits .and .u64 ((q : Int) / 2 ^ k) 1 != 0) = false := by rw [bit_not' q k hq hlt2]; exact hbit2
              go_wp2
              go_roundw
              case rel => exact ⟨k + 1, g, A, by omega, by go_num, rfl, HA, by rw [PM.mod_false hbit2]; exact HW⟩
              case measure => simp [intOf] <;> omega
            · have t2 : (bits .and .u64 ((q : Int) / 2 ^ k) 1 != 0) = true := by rw [bit_not' q k hq hlt2]; exact hbit2
              have hg := hget (126 - i - k) (by omega)
              clear hget hsz
              go_wp2
              go_roundw
              case rel => exact ⟨k + 1, fun z => if z = 126 - i - k then !g z else g z, _, by omega, by go_num, rfl, by rw [HA.out]; exact arr_set g _, by rw [PM.V_flip g 127 (126 - i - k) (by omega), HW.out, PM.shl_mod_true hbit2, ← Nat.xor_assoc, show 127 - 1 - (126 - i - k) = i + k by omega]⟩
              case measure => simp [intOf] <;> omega
          · go_wp2
            go_roundw
            case rel => exact ⟨i + 1, g, A, by omega, by go_num, rfl, HA, by rw [HW.out, show k = 64 by omega, Nat.mod_eq_of_lt (show q < 2 ^ 64 from hq), PM.cl_true hbit]⟩
            case measure => simp [intOf] <;> omega
    · have hget : ∀ j, j < 127 → (w.alloc (.cells A 4)).cell? ⟨w.heap.size, 0 + j, none⟩ = some (.bool (g j)) := fun j hj => by
        rw [World.cell?_alloc_at _ _ _ _ rfl, Nat.zero_add, HA.out]; exact arr_get g j hj
      have HB := bits_any w.heap.size 0 127 127 m g (w.alloc (.cells A 4)) (by omega) hm h0 hget
      clear hget
      go_wp2_with (go_at_call 41; refine HB.mono ?_; rintro e w' ⟨rfl, rfl⟩)
      go_ret2
      exact ⟨by rw [HV.out, show i = 64 by omega, PM.cl_eq_C q p 64 hp, PM.C_comm q p]; rfl, grew_alloc w A _⟩
theorem refMulMod_two (p m : Nat) (w : World) (hp : p < 18446744073709551616) (hm : m < 18446744073709551616) (h0 : m ≠ 0) :
    Calls Try.prog 40 #[.int .u64 p, .int .u64 2, .int .u64 m] w fun e w' => e = .returned (.tuple #[.int .u64 (PM.R m m.log2 (PM.C p 2) : Nat), .int .i64 0]) ∧ Grew w w' :=
  refMulMod_any p 2 m w hp (by omega) hm h0
set_option maxHeartbeats 400000 in
theorem refPowMod_zero (n : Nat) (w : World) :
    Calls Try.prog 39 #[.int .u64 n, .int .u64 0] w fun e w' => e = .returned (.tuple #[.int .u64 0, .int .i64 10]) ∧ w' = w := by
  go_enter Try.func39, Try.ntmps39
  go_wp2_with fail
  go_ret2
  exact ⟨rfl, rfl⟩
theorem build1 (w : World) : (Instr.buildSlice 75 1 #[(0, .bool true)]).run Try.prog w = .ok (.slice (some ⟨w.heap.size, 0, none⟩) 1 1) (w.alloc (.cells #[.bool true] 4)) := by kernel_rfl
set_option maxHeartbeats 1000000 in
theorem refPowMod_any (m : Nat) (hm : m < 18446744073709551616) (h0 : m ≠ 0) (k : Nat) : ∀ (n : Nat) (w : World), n < 2 ^ k → n < 18446744073709551616 →
    Calls Try.prog 39 #[.int .u64 n, .int .u64 m] w fun e w' => e = .returned (.tuple #[.int .u64 (PM.R m m.log2 (2 ^ n) : Nat), .int .i64 0]) ∧ Grew w w' := by
  have hz : ((m : Int) == 0) = false := by simpa using h0
  have one : ∀ (w : World), Calls Try.prog 39 #[.int .u64 0, .int .u64 m] w fun e w' => e = .returned (.tuple #[.int .u64 (PM.R m m.log2 (2 ^ 0) : Nat), .int .i64 0]) ∧ Grew w w' := by
    intro w
    have hget : ∀ j, j < 1 → (w.alloc (.cells #[.bool true] 4)).cell? ⟨w.heap.size, 0 + j, none⟩ = some (.bool true) := fun j hj => by
      rw [World.cell?_alloc_at _ _ _ _ rfl, show 0 + j = 0 by omega]; rfl
    have HB := bits_any w.heap.size 0 1 1 m (fun _ => true) (w.alloc (.cells #[.bool true] 4)) (by omega) hm h0 hget
    have hv : PM.V (fun _ => true) 1 = 2 ^ 0 := rfl
    rw [hv] at HB
    have hbs := build1
    clear hget hv
    go_enter Try.func39, Try.ntmps39
    go_wp2_with (go_at_call 41; refine HB.mono ?_; rintro e w' ⟨rfl, rfl⟩)
    go_ret2
    exact ⟨rfl, grew_alloc w _ _⟩
  induction k with
  | zero =>
    intro n w hk hn
    have : n = 0 := by omega
    subst this
    exact one w
  | succ k ih =>
    intro n w hk hn
    by_cases hn0 : n = 0
    · subst hn0; exact one w
    · have hnz : ((n : Int) == 0) = false := by simpa using hn0
      have H : ∀ (w : World), Calls Try.prog 39 #[.int .u64 ((n : Int) / 2), .int .u64 m] w fun e w' => e = .returned (.tuple #[.int .u64 (PM.R m m.log2 (2 ^ (n / 2)) : Nat), .int .i64 0]) ∧ Grew w w' := fun w => by
        have h := ih (n / 2) w (by rw [Nat.pow_succ] at hk; omega) (by omega)
        rwa [show ((n / 2 : Nat) : Int) = (n : Int) / 2 by omega] at h
      have hA := R_lt64 h0 hm (2 ^ (n / 2))
      have hB := R_lt64 h0 hm (PM.C (PM.R m m.log2 (2 ^ (n / 2))) (PM.R m m.log2 (2 ^ (n / 2))))
      have HE : Hid (PM.R m m.log2 (PM.C (PM.R m m.log2 (2 ^ (n / 2))) (PM.R m m.log2 (2 ^ (n / 2)))) = PM.R m m.log2 (2 ^ (2 * (n / 2)))) := PM.pow_dbl (PM.deg_log2 h0) _
      clear ih one
      rcases (show n % 2 = 0 ∨ n % 2 = 1 by omega) with hp | hp
      · have hpi : (n : Int) % 2 = 0 := by omega
        have HN : Hid (2 * (n / 2) = n) := show 2 * (n / 2) = n by omega
        clear hp
        go_enter Try.func39, Try.ntmps39
        go_wp2_with fail
        refine (H _).mono ?_
        rintro e w1 ⟨rfl, hg1⟩
        go_wp2_with fail
        refine (refMulMod_any _ _ m _ hA hA hm h0).mono ?_
        rintro e w2 ⟨rfl, hg2⟩
        go_wp2_with fail
        go_ret2
        exact ⟨by rw [HE.out, HN.out]; rfl, grew_trans hg1 hg2⟩
      · have hpi : (n : Int) % 2 = 1 := by omega
        have HN : Hid (2 * (n / 2) + 1 = n) := show 2 * (n / 2) + 1 = n by omega
        have HF : Hid (PM.R m m.log2 (PM.C (PM.R m m.log2 (PM.C (PM.R m m.log2 (2 ^ (n / 2))) (PM.R m m.log2 (2 ^ (n / 2))))) 2) = PM.R m m.log2 (2 ^ n)) := by
          show _ = _
          rw [PM.R_C_left (PM.deg_log2 h0), ← PM.R_C_left (PM.deg_log2 h0), HE.out, PM.R_C_left (PM.deg_log2 h0), show (2 : Nat) = 2 ^ 1 from rfl, PM.C_pow_pow, show 2 ^ 1 * (n / 2 ^ 1) + 1 = n from HN]
        have H2 := fun w => refMulMod_two (PM.R m m.log2 (PM.C (PM.R m m.log2 (2 ^ (n / 2))) (PM.R m m.log2 (2 ^ (n / 2))))) m w hB hm h0
        clear hp
        go_enter Try.func39, Try.ntmps39
        go_wp2_with fail
        refine (H _).mono ?_
        rintro e w1 ⟨rfl, hg1⟩
        go_wp2_with fail
        refine (refMulMod_any _ _ m _ hA hA hm h0).mono ?_
        rintro e w2 ⟨rfl, hg2⟩
        go_wp2_with fail
        refine (H2 _).mono ?_
        rintro e w3 ⟨rfl, hg3⟩
        go_wp2_with fail
        go_ret2
        exact ⟨by rw [HF.out]; rfl, grew_trans (grew_trans hg1 hg2) hg3⟩

end Go.Proofs.Ytlnfkgnlagadaaa
