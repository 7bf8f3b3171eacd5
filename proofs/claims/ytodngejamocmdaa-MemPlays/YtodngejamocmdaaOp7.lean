/- A list of calls of layer 7 that came in. -/
import Derived.Test.YtodngejamocmdaaAgg3
import Derived.Deep.Slices
namespace Go.Proofs.Ytodngejamocmdaa
open Go.ChangeShapes Go.WideShapes Go.ChangeAt Go.RowKit Go.Joins Go.Deep

/-- A list of calls that came in. -/
def OpRow (w : World) (a : Option Addr) (len : Nat) : Prop := len ≤ 9223372036854775807 ∧ (0 < len → ∃ b off, a = some ⟨b, off, none⟩ ∧ b < w.heap.size ∧ ∀ i, i < len → ∃ (k p : Int) (c : Nat), (c < 256 ∧ p ≤ 9223372036854775807) ∧
  w.cell? ⟨b, off + i * 3 + 0, none⟩ = some (.int .i64 k) ∧ w.cell? ⟨b, off + i * 3 + 1, none⟩ = some (.int .i64 p) ∧ w.cell? ⟨b, off + i * 3 + 2, none⟩ = some (.int .u8 (c : Nat)))
section
variable {H : Type} {enc : TypeId × Value → H} {w : World} {base : Nat} {spare : TypeId → Bool} {held : Bool}
theorem trod_op {fuel : Nat} {cs : List Value} {x : DataW H × List MemPlace} (h : DataW.trod enc Try.prog w base spare held fuel 36 cs = some x) :
    ∃ k p c : Int, cs = [.int .i64 k, .int .i64 p, .int .u8 c] ∧ (Lit.int .i64 p).wf = true ∧ (Lit.int .u8 c).wf = true := by
  obtain ⟨xs, m, _, _, hl, hxl, hf⟩ := DataW.trod_struct (Try.underlying36) h
  obtain ⟨c0, c1, c2, rfl⟩ := list3 (hl.trans (by kernel_rfl))
  obtain ⟨y0, y1, y2, rfl⟩ := list3 (l := xs) (by simpa using hxl)
  have z1 : Try.prog.cellsOf 3 = 1 := by kernel_rfl
  have z2 : Try.prog.cellsOf 5 = 1 := by kernel_rfl
  have g0 := hf 0 _ rfl
  have g1 := hf 1 _ rfl
  have g2 := hf 2 _ rfl
  simp [z1, z2] at g0 g1 g2
  obtain ⟨k, e0, _⟩ := DataW.trod_int Try.underlying3 g0
  obtain ⟨p, e1, _, v1⟩ := DataW.trod_int Try.underlying3 g1
  obtain ⟨c, e2, _, v2⟩ := DataW.trod_int Try.underlying5 g2
  simp at e0 e1 e2
  exact ⟨k, p, c, by rw [e0, e1, e2], v1, v2⟩
theorem trod_ops {fuel : Nat} {a : Option Addr} {len cap : Nat} {x : DataW H × List MemPlace} (h : DataW.trod enc Try.prog w base spare held fuel 23 [.slice a len cap] = some x) : OpRow w a len := by
  rcases open_slice Try.underlying23 h with ⟨hcs, _⟩ | ⟨y, l, cp, m, n, D, Pl, hcs, _, hl, hm, hmm, _, hx⟩
  · simp at hcs
    obtain ⟨_, rfl, _⟩ := hcs
    exact ⟨by omega, fun h => by omega⟩
  · simp at hcs
    obtain ⟨rfl, rfl, rfl⟩ := hcs
    refine ⟨by unfold maxLen at hm; omega, fun hp => ?_⟩
    have hlm : len ≤ m := by rw [hmm]; split <;> omega
    have ce : Try.prog.cellsOf 36 = 3 := by kernel_rfl
    rw [ce] at hx
    have each : ∀ i, i < len → ∃ (k p : Int) (c : Nat), (c < 256 ∧ p ≤ 9223372036854775807) ∧ ∀ j u, (#[.int .i64 k, .int .i64 p, .int .u8 (c : Nat)] : Array Value)[j]? = some u → w.cell? ((y.add (i * 3)).add j) = some u := by
      intro i hi
      obtain ⟨cs, h1, h2⟩ := hx i (by omega)
      obtain ⟨k, p, c, rfl, vp, vc⟩ := trod_op h2
      have bp := bounds_i64 vp
      have bc := bounds_u8 vc
      obtain ⟨_, _, hcell⟩ := World.cells?_some h1
      refine ⟨k, p, c.toNat, ⟨by omega, by omega⟩, fun j u hu => ?_⟩
      rw [Int.toNat_of_nonneg (by omega)] at hu
      have hj : j < 3 := by simpa using (Array.getElem?_eq_some_iff.1 hu).1
      rw [hcell j hj]
      simpa using hu
    obtain ⟨b, off, spot⟩ := y
    obtain ⟨k0, _, _, _, h0⟩ := each 0 hp
    have hc0 := h0 0 _ rfl
    have hspot : spot = none := by simpa [Addr.add] using World.cell?_spot hc0
    subst hspot
    refine ⟨b, off, rfl, ?_, fun i hi => ?_⟩
    · rw [Go.WideShapes.add_plain, Go.WideShapes.add_plain] at hc0
      exact World.block_lt_of_cell? w _ hc0
    · obtain ⟨k, p, c, hb, h⟩ := each i hi
      have hh : ∀ j u, _ := h
      refine ⟨k, p, c, hb, ?_, ?_, ?_⟩
      · have := hh 0 _ rfl; rw [Go.WideShapes.add_plain, Go.WideShapes.add_plain] at this; exact this
      · have := hh 1 _ rfl; rw [Go.WideShapes.add_plain, Go.WideShapes.add_plain] at this; exact this
      · have := hh 2 _ rfl; rw [Go.WideShapes.add_plain, Go.WideShapes.add_plain] at this; exact this
end

end Go.Proofs.Ytodngejamocmdaa
