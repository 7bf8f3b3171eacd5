/- A call's struct (four integers and a record of four), opened where it comes in. -/
import Derived.Test.YtejjhenkhleibaaProg
import Derived.WalkKit
import Derived.ProofKit
import Derived.Lib.SmallJoins
import Derived.Deep.Slices
namespace Go.Proofs.Ytejjhenkhleibaa
open Go.ChangeShapes Go.WideShapes Go.ChangeAt Go.RowKit Go.Joins Go.Deep

theorem list8 {α : Type} {l : List α} (h : l.length = 8) : ∃ c0 c1 c2 c3 c4 c5 c6 c7, l = [c0, c1, c2, c3, c4, c5, c6, c7] := by
  match l, h with
  | [c0, c1, c2, c3, c4, c5, c6, c7], _ => exact ⟨c0, c1, c2, c3, c4, c5, c6, c7, rfl⟩
theorem list5 {α : Type} {l : List α} (h : l.length = 5) : ∃ c0 c1 c2 c3 c4, l = [c0, c1, c2, c3, c4] := by
  match l, h with
  | [c0, c1, c2, c3, c4], _ => exact ⟨c0, c1, c2, c3, c4, rfl⟩
theorem list4 {α : Type} {l : List α} (h : l.length = 4) : ∃ c0 c1 c2 c3, l = [c0, c1, c2, c3] := by
  match l, h with
  | [c0, c1, c2, c3], _ => exact ⟨c0, c1, c2, c3, rfl⟩
section
variable {H : Type} {enc : TypeId × Value → H} {w : World} {base : Nat} {spare : TypeId → Bool} {held : Bool}
theorem trod_rec {fuel : Nat} {cs : List Value} {x : DataW H × List MemPlace} (h : DataW.trod enc Try.prog w base spare held fuel 31 cs = some x) :
    ∃ i j s n : Int, cs = [.int .i64 i, .int .i64 j, .int .u32 s, .int .u32 n] := by
  obtain ⟨xs, m, _, _, hl, hxl, hf⟩ := DataW.trod_struct (Try.underlying31) h
  obtain ⟨c0, c1, c2, c3, rfl⟩ := list4 (hl.trans (by kernel_rfl))
  obtain ⟨y0, y1, y2, y3, rfl⟩ := list4 (l := xs) (by simpa using hxl)
  have z1 : Try.prog.cellsOf 3 = 1 := by kernel_rfl
  have z2 : Try.prog.cellsOf 29 = 1 := by kernel_rfl
  have z3 : Try.prog.cellsOf 28 = 1 := by kernel_rfl
  have g0 := hf 0 _ rfl
  have g1 := hf 1 _ rfl
  have g2 := hf 2 _ rfl
  have g3 := hf 3 _ rfl
  simp [z1, z2, z3] at g0 g1 g2 g3
  obtain ⟨i, e0, _⟩ := DataW.trod_int Try.underlying3 g0
  obtain ⟨j, e1, _⟩ := DataW.trod_int Try.underlying29 g1
  obtain ⟨s, e2, _⟩ := DataW.trod_int Try.underlying28 g2
  obtain ⟨n, e3, _⟩ := DataW.trod_int Try.underlying28 g3
  simp at e0 e1 e2 e3
  exact ⟨i, j, s, n, by rw [e0, e1, e2, e3]⟩
theorem trod_op {fuel : Nat} {cs : List Value} {x : DataW H × List MemPlace} (h : DataW.trod enc Try.prog w base spare held fuel 36 cs = some x) :
    ∃ k wh a b i j s n : Int, cs = [.int .i64 k, .int .i64 wh, .int .u64 a, .int .u64 b, .int .i64 i, .int .i64 j, .int .u32 s, .int .u32 n] ∧ (Lit.int .i64 wh).wf = true ∧ (Lit.int .u64 a).wf = true ∧ (Lit.int .u64 b).wf = true := by
  obtain ⟨xs, m, _, _, hl, hxl, hf⟩ := DataW.trod_struct (Try.underlying36) h
  obtain ⟨c0, c1, c2, c3, c4, c5, c6, c7, rfl⟩ := list8 (hl.trans (by kernel_rfl))
  obtain ⟨y0, y1, y2, y3, y4, rfl⟩ := list5 (l := xs) (by simpa using hxl)
  have z1 : Try.prog.cellsOf 3 = 1 := by kernel_rfl
  have z2 : Try.prog.cellsOf 27 = 1 := by kernel_rfl
  have z3 : Try.prog.cellsOf 31 = 4 := by kernel_rfl
  have g0 := hf 0 _ rfl
  have g1 := hf 1 _ rfl
  have g2 := hf 2 _ rfl
  have g3 := hf 3 _ rfl
  have g4 := hf 4 _ rfl
  simp [z1, z2, z3] at g0 g1 g2 g3 g4
  obtain ⟨k, e0, _⟩ := DataW.trod_int Try.underlying3 g0
  obtain ⟨wh, e1, _, v1⟩ := DataW.trod_int Try.underlying3 g1
  obtain ⟨a, e2, _, v2⟩ := DataW.trod_int Try.underlying27 g2
  obtain ⟨b, e3, _, v3⟩ := DataW.trod_int Try.underlying27 g3
  obtain ⟨i, j, s, n, e4⟩ := trod_rec g4
  simp at e0 e1 e2 e3 e4
  obtain ⟨e4, e5, e6, e7⟩ := e4
  exact ⟨k, wh, a, b, i, j, s, n, by rw [e0, e1, e2, e3, e4, e5, e6, e7], v1, v2, v3⟩
end

end Go.Proofs.Ytejjhenkhleibaa
