/- Layer 20: texts as lists of bytes; the document's Number. -/
import Derived.Test.YtiikebaehoobnaaDoorRowo
import Derived.Test.YtiikebaehoobnaaDoorOffs
import Derived.Test.YtiikebaehoobnaaDoorStrs
import Derived.Lib.ItoaNum
import Derived.WalkKit
namespace Go.Proofs.YtiikebaehoobnaaDoor
set_option maxRecDepth 100000
open Go.RowKit
set_option maxRecDepth 100000
def natV : Value → Nat
  | .int _ n => n.toNat
  | _ => 0
/-- A text. -/
def tx (l : List UInt8) : ByteArray := ⟨l.toArray⟩
theorem tx_app (a b : List UInt8) : tx a ++ tx b = tx (a ++ b) := by
  apply ByteArray.ext
  rw [ByteArray.data_append]
  simp [tx]
theorem tx_nil : tx [] = ByteArray.mk #[] := rfl
theorem tx_inj {a b : List UInt8} (h : tx a = tx b) : a = b := by
  have := congrArg (fun x => x.data.toList) h
  simpa [tx] using this
theorem tx_size (a : List UInt8) : (tx a).size = a.length := by
  show a.toArray.size = _
  simp
theorem dig_small {u : Nat} (h : u < 10) : Lib.decDigits u = [UInt8.ofNat (48 + u)] := by rw [Lib.decDigits, dif_pos h]
theorem dig_big {u : Nat} (h : ¬ u < 10) : Lib.decDigits u = Lib.decDigits (u / 10) ++ [UInt8.ofNat (48 + u % 10)] := by rw [Lib.decDigits, dif_neg h]
theorem dig_len : ∀ k u, u < 10 ^ (k + 1) → (Lib.decDigits u).length ≤ k + 1
  | 0, u, h => by rw [dig_small (by simpa using h)]; simp
  | k + 1, u, h => by
    by_cases h9 : u < 10
    · rw [dig_small h9]; simp
    · rw [dig_big h9, List.length_append]
      have := dig_len k (u / 10) (by rw [Nat.pow_succ] at h; omega)
      simp
      omega
theorem dig_19 {u : Nat} (h : u ≤ 9223372036854775808) : (Lib.decDigits u).length ≤ 19 := by
  have e : (10 : Nat) ^ 19 = 10000000000000000000 := by decide
  exact dig_len 18 u (by omega)
theorem itoa_len {n : Int} (h0 : -9223372036854775808 ≤ n) (h1 : n ≤ 9223372036854775807) : (Lib.itoa n).length ≤ 20 := by
  unfold Lib.itoa
  split
  · have := dig_19 (u := n.natAbs) (by omega)
    simp
    omega
  · have := dig_19 (u := n.toNat) (by omega)
    omega
theorem itoa_nat (n : Nat) : Lib.itoa ((n : Nat) : Int) = Lib.decDigits n := by
  unfold Lib.itoa
  rw [if_neg (by omega), Int.toNat_natCast]
theorem itoa_least : tx (Lib.itoa (-9223372036854775808)) = ByteArray.mk #[45, 57, 50, 50, 51, 51, 55, 50, 48, 51, 54, 56, 53, 52, 55, 55, 53, 56, 48, 56] := by
  have e : Lib.itoa (-9223372036854775808) = 45 :: Lib.decDigits 9223372036854775808 := rfl
  rw [e, dig_big (by decide), dig_big (by decide), dig_big (by decide), dig_big (by decide), dig_big (by decide), dig_big (by decide), dig_big (by decide), dig_big (by decide), dig_big (by decide), dig_big (by decide), dig_big (by decide), dig_big (by decide), dig_big (by decide), dig_big (by decide), dig_big (by decide), dig_big (by decide), dig_big (by decide), dig_big (by decide), dig_small (by decide)]
  rfl
theorem BA_tx (bs : Nat → Nat) (n : Nat) : BA bs n = tx ((List.range n).map fun i => UInt8.ofNat (bs i)) := by
  apply ByteArray.ext
  apply Array.ext'
  rw [BA_list]
  rfl
/-- One byte as a text. -/
theorem conv_one (w : World) (d : Nat) (hd : d < 256) : (convert 32 9 (.slice (some ⟨w.heap.size, 0, none⟩) 1 1)).run Tryd.prog (w.alloc (.cells #[.int .u8 ((d : Nat) : Int)] 5)) = .ok (.string (tx [UInt8.ofNat d])) (w.alloc (.cells #[.int .u8 ((d : Nat) : Int)] 5)) := by
  have R : Row8 (w.alloc (.cells #[.int .u8 ((d : Nat) : Int)] 5)) (some ⟨w.heap.size, 0, none⟩) 1 1 (fun _ => d) := by
    refine ⟨fun _ _ => hd, (fun h => by cases h), fun x hx i hi => ?_, by omega⟩
    cases hx
    obtain rfl : i = 0 := by omega
    exact cell_of_row _ _ 0 _ _ _ (heap_alloc_new w (.cells #[.int .u8 ((d : Nat) : Int)] 5))
  rw [conv_any _ _ _ _ _ R, BA_tx]
  rfl
end Go.Proofs.YtiikebaehoobnaaDoor
