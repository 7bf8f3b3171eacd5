/- A list of records that came in. -/
import Derived.Test.YteaekoacongbcaaProg
import Derived.WalkKit
import Derived.ProofKit
import Derived.Lib.SmallJoins
import Derived.Deep.Slices
import Derived.OpenShut
namespace Go.Proofs.Yteaekoacongbcaa
open Go.ChangeShapes Go.WideShapes Go.ChangeAt Go.RowKit Go.Joins Go.Deep

/-- A list of records that came in. -/
def OpRow (w : World) (a : Option Addr) (len : Nat) : Prop := len ≤ 9223372036854775807 ∧ (0 < len → ∃ b off, a = some ⟨b, off, none⟩ ∧ b < w.heap.size ∧ ∀ i, i < len → ∃ t c s n : Int, (Lit.int .i64 c).wf = true ∧
  w.cell? ⟨b, off + i * 4 + 0, none⟩ = some (.int .i64 t) ∧ w.cell? ⟨b, off + i * 4 + 1, none⟩ = some (.int .i64 c) ∧ w.cell? ⟨b, off + i * 4 + 2, none⟩ = some (.int .u32 s) ∧ w.cell? ⟨b, off + i * 4 + 3, none⟩ = some (.int .u32 n))
theorem list4O {α : Type} {l : List α} (h : l.length = 4) : ∃ a b c d, l = [a, b, c, d] := by
  match l, h with
  | [a, b, c, d], _ => exact ⟨a, b, c, d, rfl⟩
section
variable {H : Type} {enc : TypeId × Value → H} {w : World} {base : Nat} {spare : TypeId → Bool} {held : Bool}
theorem trod_op {fuel : Nat} {cs : List Value} {x : DataW H × List MemPlace} (h : DataW.trod enc Try.prog w base spare held fuel 32 cs = some x) :
    ∃ t c s n : Int, cs = [.int .i64 t, .int .i64 c, .int .u32 s, .int .u32 n] ∧ (Lit.int .i64 c).wf = true := by
  obtain ⟨xs, m, _, _, hl, hxl, hf⟩ := DataW.trod_struct (Try.underlying32) h
  obtain ⟨c0, c1, c2, c3, rfl⟩ := list4O (hl.trans (by kernel_rfl))
  obtain ⟨y0, y1, y2, y3, rfl⟩ := list4O (l := xs) (by simpa using hxl)
  have z1 : Try.prog.cellsOf 3 = 1 := by kernel_rfl
  have z2 : Try.prog.cellsOf 29 = 1 := by kernel_rfl
  have z3 : Try.prog.cellsOf 30 = 1 := by kernel_rfl
  have g0 := hf 0 _ rfl
  have g1 := hf 1 _ rfl
  have g2 := hf 2 _ rfl
  have g3 := hf 3 _ rfl
  simp [z1, z2, z3] at g0 g1 g2 g3
  obtain ⟨t, e0, _⟩ := DataW.trod_int Try.underlying3 g0
  obtain ⟨c, e1, _, v1⟩ := DataW.trod_int Try.underlying29 g1
  obtain ⟨s, e2, _⟩ := DataW.trod_int Try.underlying30 g2
  obtain ⟨n, e3, _⟩ := DataW.trod_int Try.underlying30 g3
  simp at e0 e1 e2 e3
  exact ⟨t, c, s, n, by rw [e0, e1, e2, e3], v1⟩
theorem trod_ops {fuel : Nat} {a : Option Addr} {len cap : Nat} {x : DataW H × List MemPlace} (h : DataW.trod enc Try.prog w base spare held fuel 22 [.slice a len cap] = some x) : OpRow w a len := by
  rcases open_slice Try.underlying22 h with ⟨hcs, _⟩ | ⟨y, l, cp, m, n, D, Pl, hcs, _, hl, hm, hmm, _, hx⟩
  · simp at hcs
    obtain ⟨_, rfl, _⟩ := hcs
    exact ⟨by omega, fun h => by omega⟩
  · simp at hcs
    obtain ⟨rfl, rfl, rfl⟩ := hcs
    refine ⟨by unfold maxLen at hm; omega, fun hp => ?_⟩
    have hlm : len ≤ m := by rw [hmm]; split <;> omega
    have ce : Try.prog.cellsOf 32 = 4 := by kernel_rfl
    rw [ce] at hx
    have each : ∀ i, i < len → ∃ t c s n : Int, (Lit.int .i64 c).wf = true ∧ ∀ j u, (#[.int .i64 t, .int .i64 c, .int .u32 s, .int .u32 n] : Array Value)[j]? = some u → w.cell? ((y.add (i * 4)).add j) = some u := by
      intro i hi
      obtain ⟨cs, h1, h2⟩ := hx i (by omega)
      obtain ⟨t, c, s, n, rfl, vc⟩ := trod_op h2
      obtain ⟨_, _, hcell⟩ := World.cells?_some h1
      refine ⟨t, c, s, n, vc, fun j u hu => ?_⟩
      have hj : j < 4 := by simpa using (Array.getElem?_eq_some_iff.1 hu).1
      rw [hcell j hj]
      simpa using hu
    obtain ⟨b, off, spot⟩ := y
    obtain ⟨t0, _, _, _, _, h0⟩ := each 0 hp
    have hc0 := h0 0 _ rfl
    have hspot : spot = none := by simpa [Addr.add] using World.cell?_spot hc0
    subst hspot
    refine ⟨b, off, rfl, ?_, fun i hi => ?_⟩
    · rw [Go.WideShapes.add_plain, Go.WideShapes.add_plain] at hc0
      exact World.block_lt_of_cell? w _ hc0
    · obtain ⟨t, c, s, n, hb, h⟩ := each i hi
      have hh : ∀ j u, _ := h
      refine ⟨t, c, s, n, hb, ?_, ?_, ?_, ?_⟩
      · have := hh 0 _ rfl; rw [Go.WideShapes.add_plain, Go.WideShapes.add_plain] at this; exact this
      · have := hh 1 _ rfl; rw [Go.WideShapes.add_plain, Go.WideShapes.add_plain] at this; exact this
      · have := hh 2 _ rfl; rw [Go.WideShapes.add_plain, Go.WideShapes.add_plain] at this; exact this
      · have := hh 3 _ rfl; rw [Go.WideShapes.add_plain, Go.WideShapes.add_plain] at this; exact this
end

end Go.Proofs.Yteaekoacongbcaa
