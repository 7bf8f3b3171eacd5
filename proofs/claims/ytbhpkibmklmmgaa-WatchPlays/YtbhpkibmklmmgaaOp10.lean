/- A list of calls of layer 10 that came in. -/
import Derived.Test.YtbhpkibmklmmgaaProg
import Derived.WalkKit
import Derived.ProofKit
import Derived.Lib.SmallJoins
import Derived.Deep.Slices
import Derived.OpenShut
namespace Go.Proofs.Ytbhpkibmklmmgaa
open Go.ChangeShapes Go.WideShapes Go.ChangeAt Go.RowKit Go.Joins Go.Deep

/-- A list of calls that came in. -/
def OpRow (w : World) (a : Option Addr) (len : Nat) : Prop := len ≤ 9223372036854775807 ∧ (0 < len → ∃ b off, a = some ⟨b, off, none⟩ ∧ b < w.heap.size ∧ ∀ i, i < len → ∃ k p : Int, p ≤ 9223372036854775807 ∧
  w.cell? ⟨b, off + i * 2 + 0, none⟩ = some (.int .i64 k) ∧ w.cell? ⟨b, off + i * 2 + 1, none⟩ = some (.int .i64 p))
theorem list2 {α : Type} {l : List α} (h : l.length = 2) : ∃ a b, l = [a, b] := by
  match l, h with
  | [a, b], _ => exact ⟨a, b, rfl⟩
section
variable {H : Type} {enc : TypeId × Value → H} {w : World} {base : Nat} {spare : TypeId → Bool} {held : Bool}
theorem trod_op {fuel : Nat} {cs : List Value} {x : DataW H × List MemPlace} (h : DataW.trod enc Try.prog w base spare held fuel 32 cs = some x) :
    ∃ k p : Int, cs = [.int .i64 k, .int .i64 p] ∧ (Lit.int .i64 p).wf = true := by
  obtain ⟨xs, m, _, _, hl, hxl, hf⟩ := DataW.trod_struct (Try.underlying32) h
  obtain ⟨c0, c1, rfl⟩ := list2 (hl.trans (by kernel_rfl))
  obtain ⟨y0, y1, rfl⟩ := list2 (l := xs) (by simpa using hxl)
  have z1 : Try.prog.cellsOf 3 = 1 := by kernel_rfl
  have g0 := hf 0 _ rfl
  have g1 := hf 1 _ rfl
  simp [z1] at g0 g1
  obtain ⟨k, e0, _⟩ := DataW.trod_int Try.underlying3 g0
  obtain ⟨p, e1, _, v1⟩ := DataW.trod_int Try.underlying3 g1
  simp at e0 e1
  exact ⟨k, p, by rw [e0, e1], v1⟩
theorem trod_ops {fuel : Nat} {a : Option Addr} {len cap : Nat} {x : DataW H × List MemPlace} (h : DataW.trod enc Try.prog w base spare held fuel 22 [.slice a len cap] = some x) : OpRow w a len := by
  rcases open_slice Try.underlying22 h with ⟨hcs, _⟩ | ⟨y, l, cp, m, n, D, Pl, hcs, _, hl, hm, hmm, _, hx⟩
  · simp at hcs
    obtain ⟨_, rfl, _⟩ := hcs
    exact ⟨by omega, fun h => by omega⟩
  · simp at hcs
    obtain ⟨rfl, rfl, rfl⟩ := hcs
    refine ⟨by unfold maxLen at hm; omega, fun hp => ?_⟩
    have hlm : len ≤ m := by rw [hmm]; split <;> omega
    have ce : Try.prog.cellsOf 32 = 2 := by kernel_rfl
    rw [ce] at hx
    have each : ∀ i, i < len → ∃ k p : Int, p ≤ 9223372036854775807 ∧ ∀ j u, (#[.int .i64 k, .int .i64 p] : Array Value)[j]? = some u → w.cell? ((y.add (i * 2)).add j) = some u := by
      intro i hi
      obtain ⟨cs, h1, h2⟩ := hx i (by omega)
      obtain ⟨k, p, rfl, vp⟩ := trod_op h2
      have bp := bounds_i64 vp
      obtain ⟨_, _, hcell⟩ := World.cells?_some h1
      refine ⟨k, p, by omega, fun j u hu => ?_⟩
      have hj : j < 2 := by simpa using (Array.getElem?_eq_some_iff.1 hu).1
      rw [hcell j hj]
      simpa using hu
    obtain ⟨b, off, spot⟩ := y
    obtain ⟨k0, _, _, h0⟩ := each 0 hp
    have hc0 := h0 0 _ rfl
    have hspot : spot = none := by simpa [Addr.add] using World.cell?_spot hc0
    subst hspot
    refine ⟨b, off, rfl, ?_, fun i hi => ?_⟩
    · rw [Go.WideShapes.add_plain, Go.WideShapes.add_plain] at hc0
      exact World.block_lt_of_cell? w _ hc0
    · obtain ⟨k, p, hb, h⟩ := each i hi
      have hh : ∀ j u, _ := h
      refine ⟨k, p, hb, ?_, ?_⟩
      · have := hh 0 _ rfl; rw [Go.WideShapes.add_plain, Go.WideShapes.add_plain] at this; exact this
      · have := hh 1 _ rfl; rw [Go.WideShapes.add_plain, Go.WideShapes.add_plain] at this; exact this
end

end Go.Proofs.Ytbhpkibmklmmgaa
