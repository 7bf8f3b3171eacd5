/- Layer 20: texts as lists of bytes; the document's Number. -/
import Derived.Test.YtbhbjdmdabkomaaDoorRowo
import Derived.Test.YtbhbjdmdabkomaaDoorOffs
import Derived.Test.YtbhbjdmdabkomaaDoorStrs
import Derived.Lib.ItoaNum
import Derived.WalkKit
namespace Go.Proofs.YtbhbjdmdabkomaaDoor
set_option maxRecDepth 100000
open Go.RowKit
set_option maxRecDepth 100000
def natV : Value → Nat
  | .int _ n => n.toNat
  | _ => 0
/-- A text. -/
def tx (l : List UInt8) : ByteArray := ⟨l.toArray⟩
theorem tx_app (a b : List UInt8) : tx a ++ tx b = tx (a ++ b) := by
  apply ByteArray.ext
  rw [ByteArray.data_append]
  simp [tx]
theorem tx_nil : tx [] = ByteArray.mk #[] := rfl
theorem tx_inj {a b : List UInt8} (h : tx a = tx b) : a = b := by
  have := congrArg (fun x => x.data.toList) h
  simpa [tx] using this
theorem tx_size (a : List UInt8) : (tx a).size = a.length := by
  show a.toArray.size = _
  simp
theorem dig_small {u : Nat} (h : u < 10) : Lib.decDigits u = [UInt8.ofNat (48 + u)] := by rw [Lib.decDigits, dif_pos h]
theorem dig_big {u : Nat} (h : ¬ u < 10) : Lib.decDigits u = Lib.decDigits (u / 10) ++ [UInt8.ofNat (48 + u % 10)] := by rw [Lib.decDigits, dif_neg h]
theorem dig_len : ∀ k u, u < 10 ^ (k + 1) → (Lib.decDigits u).length ≤ k + 1
  | 0, u, h => by rw [dig_small (by simpa using h)]; simp
  | k + 1, u, h => by
    by_cases h9 : u < 10
    · rw [dig_small h9]; simp
    · rw [dig_big h9, List.length_append]
      have := dig_len k (u / 10) (by rw [Nat.pow_succ] at h; omega)
      simp
      omega
theorem dig_19 {u : Nat} (h : u ≤ 9223372036854775808) : (Lib.decDigits u).length ≤ 19 := by
  have e : (10 : Nat) ^ 19 = 10000000000000000000 := by decide
  exact dig_len 18 u (by omega)
theorem itoa_len {n : Int} (h0 : -9223372036854775808 ≤ n) (h1 : n ≤ 9223372036854775807) : (Lib.itoa n).length ≤ 20 := by
  unfold Lib.itoa
  split
  · have := dig_19 (u := n.natAbs) (by omega)
    simp
    omega
  · have := dig_19 (u := n.toNat) (by omega)
    omega
theorem itoa_nat (n : Nat) : Lib.itoa ((n : Nat) : Int) = Lib.decDigits n := by
  unfold Lib.itoa
  rw [if_neg (by omega), Int.toNat_natCast]
theorem itoa_least : tx (Lib.itoa (-9223372036854775808)) = ByteArray.mk #[45, 57, 50, 50, 51, 51, 55, 50, 48, 51, 54, 56, 53, 52, 55, 55, 53, 56, 48, 56] := by
  have e : Lib.itoa (-9223372036854775808) = 45 :: Lib.decDigits 9223372036854775808 := rfl
  rw [e, dig_big (by decide), dig_big (by decide), dig_big (by decide), dig_big (by decide), dig_big (by decide), dig_big (by decide), dig_big (by decide), dig_big (by decide), dig_big (by decide), dig_big (by decide), dig_big (by decide), dig_big (by decide), dig_big (by decide), dig_big (by decide), dig_big (by decide), dig_big (by decide), dig_big (by decide), dig_big (by decide), dig_small (by decide)]
  rfl
theorem BA_tx (bs : Nat → Nat) (n : Nat) : BA bs n = tx ((List.range n).map fun i => UInt8.ofNat (bs i)) := by
  apply ByteArray.ext
  apply Array.ext'
  rw [BA_list]
  rfl
/-- One byte as a text. -/
theorem conv_one (w : World) (d : Nat) (hd : d < 256) : (convert 27 9 (.slice (some ⟨w.heap.size, 0, none⟩) 1 1)).run Tryd.prog (w.alloc (.cells #[.int .u8 ((d : Nat) : Int)] 5)) = .ok (.string (tx [UInt8.ofNat d])) (w.alloc (.cells #[.int .u8 ((d : Nat) : Int)] 5)) := by
  have R : Row8 (w.alloc (.cells #[.int .u8 ((d : Nat) : Int)] 5)) (some ⟨w.heap.size, 0, none⟩) 1 1 (fun _ => d) := by
    refine ⟨fun _ _ => hd, (fun h => by cases h), fun x hx i hi => ?_, by omega⟩
    cases hx
    obtain rfl : i = 0 := by omega
    exact cell_of_row _ _ 0 _ _ _ (heap_alloc_new w (.cells #[.int .u8 ((d : Nat) : Int)] 5))
  rw [conv_any _ _ _ _ _ R, BA_tx]
  rfl
theorem rnum_pos (n : Nat) (hn : n ≤ 9223372036854775807) (w : World) : Calls Tryd.prog 59 #[.int .i64 ((n : Nat) : Int)] w fun r w' => r = .returned (.string (tx (Lib.decDigits n))) ∧ Below w.heap.size w w' := by
  have hn0 : ¬ ((n : Nat) : Int) < 0 := by omega
  go_enter Tryd.func59, Tryd.ntmps59
  go_wp2_with fail
  go_loopw [0, 2, 3, 12, 13, 14, 15, 16, 17, 18, 19, 20, 21, 22, 23, 24] (fun c _ s _ _ _ _ _ _ _ _ _ _ _ _ _ wr => ∃ (m : Nat) (l : List UInt8), m ≤ 9223372036854775807 ∧ c = .int .i64 ((m : Nat) : Int) ∧ s = .string (tx l) ∧ Hid (Lib.decDigits n = Lib.decDigits m ++ l ∧ Below w.heap.size w wr)) (fun c _ _ _ _ _ _ _ _ _ _ _ _ _ _ _ _ => natV c)
  case atStart => exact ⟨n, [], hn, rfl, rfl, by simp, Below.refl _ _⟩
  case round =>
    obtain ⟨m, l, hm, rfl, rfl, HI⟩ := hrel
    have e1 : ((m : Nat) : Int).tmod 10 = ((m % 10 : Nat) : Int) := by
      rw [Int.tmod_eq_emod_of_nonneg (by omega)]
      omega
    have e2 : ((m : Nat) : Int).tdiv 10 = ((m / 10 : Nat) : Int) := by
      rw [Int.tdiv_eq_ediv_of_nonneg (by omega)]
      omega
    have cv := conv_one wr (48 + m % 10) (by omega)
    have ed : (((48 + m % 10 : Nat)) : Int) = 48 + ((m : Nat) : Int) % 10 := by omega
    rw [ed] at cv
    have HB : Hid (Below w.heap.size w (wr.alloc (.cells #[.int .u8 (48 + ((m : Nat) : Int) % 10)] 5))) := HI.out.2.alloc HI.out.2.size _
    clear ed
    have hl19 := dig_19 (u := n) (by omega)
    rw [HI.out.1, List.length_append] at hl19
    obtain ⟨X, hX⟩ : ∃ X, tx [UInt8.ofNat (48 + m % 10)] = X := ⟨_, rfl⟩
    obtain ⟨L, hL⟩ : ∃ X, tx l = X := ⟨_, rfl⟩
    rw [hX] at cv
    rw [hL]
    have hs : ¬ 9223372036854775807 < X.size + L.size := by
      rw [← hX, ← hL, tx_size, tx_size]
      simp
      omega
    have HX : Hid (X ++ L = tx (UInt8.ofNat (48 + m % 10) :: l)) := by
      rw [← hX, ← hL, tx_app]
      rfl
    clear hX hL hl19
    by_cases h9 : m < 10
    · have e0 : ((m : Nat) : Int) / 10 = 0 := by omega
      go_wp2_with fail
      go_ret
      refine ⟨?_, HB.out⟩
      rw [HX.out, HI.out.1, dig_small h9, Nat.mod_eq_of_lt h9]
      rfl
    · have e0 : ¬ ((m : Nat) : Int) / 10 = 0 := by omega
      have e3 : ((m : Nat) : Int) / 10 = ((m / 10 : Nat) : Int) := by omega
      obtain ⟨m', hm'⟩ : ∃ x, m / 10 = x := ⟨_, rfl⟩
      have HN : Hid (Lib.decDigits n = Lib.decDigits m' ++ (UInt8.ofNat (48 + m % 10) :: l) ∧ m' < m) := by
        refine ⟨?_, by omega⟩
        rw [HI.out.1, dig_big h9, hm', List.append_assoc]
        rfl
      rw [hm'] at e3
      have e0' : (((m' : Nat) : Int) == 0) = false := by
        have : m' ≠ 0 := by omega
        simpa using this
      clear e1 e2 e0 hm'
      go_wp2_with fail
      refine ⟨⟨m', _, by have := HN.out.2; omega, rfl, by rw [HX.out], HN.out.1, HB.out⟩, ?_⟩
      have := HN.out.2
      simp [natV]
      omega
/-- The document's Number: a number in decimal. -/
theorem rnum (n : Int) (h0 : -9223372036854775808 ≤ n) (h1 : n ≤ 9223372036854775807) (w : World) : Calls Tryd.prog 59 #[.int .i64 n] w fun r w' => r = .returned (.string (tx (Lib.itoa n))) ∧ Below w.heap.size w w' := by
  by_cases hn : n < 0
  · by_cases hl : n = -9223372036854775808
    · subst hl
      rw [itoa_least]
      go_enter Tryd.func59, Tryd.ntmps59
      go_wp2_with fail
      go_ret
      exact ⟨rfl, Below.refl _ _⟩
    · obtain ⟨k, rfl⟩ : ∃ k : Nat, n = -((k : Nat) : Int) := ⟨n.natAbs, by omega⟩
      have hk : k ≤ 9223372036854775807 := by omega
      have hP := rnum_pos k hk
      have e : Lib.itoa (-((k : Nat) : Int)) = 45 :: Lib.decDigits k := by
        unfold Lib.itoa
        rw [if_pos hn, Int.natAbs_neg, Int.natAbs_natCast]
      rw [e]
      have e1 : IntKind.i64.wrap (- -((k : Nat) : Int)) = ((k : Nat) : Int) := by rw [IntKind.wrap_i64]; omega
      have e2 : (-((k : Nat) : Int) == -9223372036854775808) = false := by simpa using hl
      have hl' : ¬ (-((k : Nat) : Int)) = -9223372036854775808 := hl
      obtain ⟨X, hX⟩ : ∃ X, tx (Lib.decDigits k) = X := ⟨_, rfl⟩
      have hlen := dig_19 (u := k) (by omega)
      have hs : ¬ 9223372036854775807 < (ByteArray.mk #[45]).size + X.size := by
        rw [← hX, tx_size]
        show ¬ 9223372036854775807 < 1 + _
        omega
      have HX : Hid (ByteArray.mk #[45] ++ X = tx (45 :: Lib.decDigits k)) := by
        rw [← hX]
        exact tx_app [45] _
      rw [hX] at hP
      clear e hX hlen
      go_enter Tryd.func59, Tryd.ntmps59
      go_wp2_with fail
      refine (hP _).mono ?_
      rintro r w2 ⟨rfl, b2⟩
      have HB : Hid (_) := b2
      clear hP b2
      go_wp2_with fail
      go_ret
      exact ⟨by rw [← HX.out]; rfl, HB.out⟩
  · obtain ⟨k, rfl⟩ : ∃ k : Nat, n = ((k : Nat) : Int) := ⟨n.toNat, by omega⟩
    rw [itoa_nat]
    exact rnum_pos k (by omega) w
end Go.Proofs.YtbhbjdmdabkomaaDoor
