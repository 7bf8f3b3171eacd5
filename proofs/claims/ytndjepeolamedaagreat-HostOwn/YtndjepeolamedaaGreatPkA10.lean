/- Part 11 of the texts on which the proofs of layer 13 rest: contracts of Go functions. -/
import Derived.Test.YtndjepeolamedaaGreatPkA09
namespace Go.Proofs.YtndjepeolamedaaGreat
set_option maxRecDepth 100000
open Go.RowKit
theorem Fr.lt {w : World} {M : Nat} {v : Value} {f : Fm} (h : Fr w M v f) (k : Nat) (hk : v.ownBlock = some k) : k < w.heap.size := by
  rcases h.2 with hn | ⟨g', cap', cur', rfl, hg', hh, _⟩
  · rw [hn.1] at hk; cases hk
  · cases hk; exact (Array.getElem?_eq_some_iff.1 hh).1
theorem Out.next {U U1 U2 : List Nat} {w w1 w2 : World} {d m g n mx : Nat} {P : Pm} {s : Sd} {f : Fm} {v : Value} (g1 : Gr U w U1 w1) (hf : Fr w1 w.heap.size v f) (hk : ∀ k, v.ownBlock = some k → k ∉ U1) (g2 : Gr U1 w1 U2 w2) (x2 : DV w2 d m g n mx P U2 s) : Out U w w2 d m g n mx P s f v :=
  ⟨U2, g1.trans g2, x2, own_offk hf g2.off hk, fun k e => g2.out (hf.lt k e) (hk k e)⟩
theorem Gr.far {U U' : List Nat} {w w' : World} (h : Gr U w U' w') {k : Nat} (hk : k < w.heap.size ∧ k ∉ U) : (k < w'.heap.size ∧ k ∉ U') ∧ w'.heap[k]? = w.heap[k]? :=
  ⟨⟨Nat.lt_of_lt_of_le hk.1 h.off.size, h.out hk.1 hk.2⟩, h.off.block k hk.1 hk.2⟩
theorem bitHold (fl : Nat) (h : fl < 16) : (bits .and .i64 (fl : Int) 8 != 0) = decide (8 ≤ fl) := by
  have : fl = 0 ∨ fl = 1 ∨ fl = 2 ∨ fl = 3 ∨ fl = 4 ∨ fl = 5 ∨ fl = 6 ∨ fl = 7 ∨ fl = 8 ∨ fl = 9 ∨ fl = 10 ∨ fl = 11 ∨ fl = 12 ∨ fl = 13 ∨ fl = 14 ∨ fl = 15 := by omega
  rcases this with rfl | rfl | rfl | rfl | rfl | rfl | rfl | rfl | rfl | rfl | rfl | rfl | rfl | rfl | rfl | rfl <;> rfl
end Go.Proofs.YtndjepeolamedaaGreat
