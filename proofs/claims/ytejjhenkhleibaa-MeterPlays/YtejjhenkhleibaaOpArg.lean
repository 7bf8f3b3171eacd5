/- A call's struct (four integers and a record of four), opened where it comes in. -/
import Derived.Test.YtejjhenkhleibaaProg
import Derived.WalkKit
import Derived.ProofKit
import Derived.Lib.SmallJoins
import Derived.Deep.Slices
namespace Go.Proofs.Ytejjhenkhleibaa
open Go.ChangeShapes Go.WideShapes Go.ChangeAt Go.RowKit Go.Joins Go.Deep

theorem list8 {α : Type} {l : List α} (h : l.length = 8) : ∃ c0 c1 c2 c3 c4 c5 c6 c7, l = [c0, c1, c2, c3, c4, c5, c6, c7] := by
  match l, h with
  | [c0, c1, c2, c3, c4, c5, c6, c7], _ => exact ⟨c0, c1, c2, c3, c4, c5, c6, c7, rfl⟩
theorem list5 {α : Type} {l : List α} (h : l.length = 5) : ∃ c0 c1 c2 c3 c4, l = [c0, c1, c2, c3, c4] := by
  match l, h with
  | [c0, c1, c2, c3, c4], _ => exact ⟨c0, c1, c2, c3, c4, rfl⟩
theorem list4 {α : Type} {l : List α} (h : l.length = 4) : ∃ c0 c1 c2 c3, l = [c0, c1, c2, c3] := by
  match l, h with
  | [c0, c1, c2, c3], _ => exact ⟨c0, c1, c2, c3, rfl⟩
/-- A list of calls that came in. -/
def OpRow (w : World) (a : Option Addr) (len : Nat) : Prop := len ≤ 9223372036854775807 ∧ (0 < len → ∃ b off, a = some ⟨b, off, none⟩ ∧ b < w.heap.size ∧ ∀ i, i < len → ∃ (k wh : Int) (x z : Nat) (p q s n : Int), (x < 18446744073709551616 ∧ z < 18446744073709551616) ∧
  w.cell? ⟨b, off + i * 8 + 0, none⟩ = some (.int .i64 k) ∧ w.cell? ⟨b, off + i * 8 + 1, none⟩ = some (.int .i64 wh) ∧ w.cell? ⟨b, off + i * 8 + 2, none⟩ = some (.int .u64 (x : Int)) ∧ w.cell? ⟨b, off + i * 8 + 3, none⟩ = some (.int .u64 (z : Int)) ∧
  w.cell? ⟨b, off + i * 8 + 4, none⟩ = some (.int .i64 p) ∧ w.cell? ⟨b, off + i * 8 + 5, none⟩ = some (.int .i64 q) ∧ w.cell? ⟨b, off + i * 8 + 6, none⟩ = some (.int .u32 s) ∧ w.cell? ⟨b, off + i * 8 + 7, none⟩ = some (.int .u32 n))
section
variable {H : Type} {enc : TypeId × Value → H} {w : World} {base : Nat} {spare : TypeId → Bool} {held : Bool}
theorem trod_rec {fuel : Nat} {cs : List Value} {x : DataW H × List MemPlace} (h : DataW.trod enc Try.prog w base spare held fuel 31 cs = some x) :
    ∃ i j s n : Int, cs = [.int .i64 i, .int .i64 j, .int .u32 s, .int .u32 n] := by
  obtain ⟨xs, m, _, _, hl, hxl, hf⟩ := DataW.trod_struct (Try.underlying31) h
  obtain ⟨c0, c1, c2, c3, rfl⟩ := list4 (hl.trans (by kernel_rfl))
  obtain ⟨y0, y1, y2, y3, rfl⟩ := list4 (l := xs) (by simpa using hxl)
  have z1 : Try.prog.cellsOf 3 = 1 := by kernel_rfl
  have z2 : Try.prog.cellsOf 29 = 1 := by kernel_rfl
  have z3 : Try.prog.cellsOf 28 = 1 := by kernel_rfl
  have g0 := hf 0 _ rfl
  have g1 := hf 1 _ rfl
  have g2 := hf 2 _ rfl
  have g3 := hf 3 _ rfl
  simp [z1, z2, z3] at g0 g1 g2 g3
  obtain ⟨i, e0, _⟩ := DataW.trod_int Try.underlying3 g0
  obtain ⟨j, e1, _⟩ := DataW.trod_int Try.underlying29 g1
  obtain ⟨s, e2, _⟩ := DataW.trod_int Try.underlying28 g2
  obtain ⟨n, e3, _⟩ := DataW.trod_int Try.underlying28 g3
  simp at e0 e1 e2 e3
  exact ⟨i, j, s, n, by rw [e0, e1, e2, e3]⟩
theorem trod_op {fuel : Nat} {cs : List Value} {x : DataW H × List MemPlace} (h : DataW.trod enc Try.prog w base spare held fuel 36 cs = some x) :
    ∃ k wh a b i j s n : Int, cs = [.int .i64 k, .int .i64 wh, .int .u64 a, .int .u64 b, .int .i64 i, .int .i64 j, .int .u32 s, .int .u32 n] ∧ (Lit.int .i64 wh).wf = true ∧ (Lit.int .u64 a).wf = true ∧ (Lit.int .u64 b).wf = true := by
  obtain ⟨xs, m, _, _, hl, hxl, hf⟩ := DataW.trod_struct (Try.underlying36) h
  obtain ⟨c0, c1, c2, c3, c4, c5, c6, c7, rfl⟩ := list8 (hl.trans (by kernel_rfl))
  obtain ⟨y0, y1, y2, y3, y4, rfl⟩ := list5 (l := xs) (by simpa using hxl)
  have z1 : Try.prog.cellsOf 3 = 1 := by kernel_rfl
  have z2 : Try.prog.cellsOf 27 = 1 := by kernel_rfl
  have z3 : Try.prog.cellsOf 31 = 4 := by kernel_rfl
  have g0 := hf 0 _ rfl
  have g1 := hf 1 _ rfl
  have g2 := hf 2 _ rfl
  have g3 := hf 3 _ rfl
  have g4 := hf 4 _ rfl
  simp [z1, z2, z3] at g0 g1 g2 g3 g4
  obtain ⟨k, e0, _⟩ := DataW.trod_int Try.underlying3 g0
  obtain ⟨wh, e1, _, v1⟩ := DataW.trod_int Try.underlying3 g1
  obtain ⟨a, e2, _, v2⟩ := DataW.trod_int Try.underlying27 g2
  obtain ⟨b, e3, _, v3⟩ := DataW.trod_int Try.underlying27 g3
  obtain ⟨i, j, s, n, e4⟩ := trod_rec g4
  simp at e0 e1 e2 e3 e4
  obtain ⟨e4, e5, e6, e7⟩ := e4
  exact ⟨k, wh, a, b, i, j, s, n, by rw [e0, e1, e2, e3, e4, e5, e6, e7], v1, v2, v3⟩
theorem trod_ops {fuel : Nat} {a : Option Addr} {len cap : Nat} {x : DataW H × List MemPlace} (h : DataW.trod enc Try.prog w base spare held fuel 22 [.slice a len cap] = some x) : OpRow w a len := by
  rcases open_slice Try.underlying22 h with ⟨hcs, _⟩ | ⟨y, l, cp, m, n, D, Pl, hcs, _, hl, hm, hmm, _, hx⟩
  · simp at hcs
    obtain ⟨_, rfl, _⟩ := hcs
    exact ⟨by omega, fun h => by omega⟩
  · simp at hcs
    obtain ⟨rfl, rfl, rfl⟩ := hcs
    refine ⟨by unfold maxLen at hm; omega, fun hp => ?_⟩
    have hlm : len ≤ m := by rw [hmm]; split <;> omega
    have ce : Try.prog.cellsOf 36 = 8 := by kernel_rfl
    rw [ce] at hx
    have each : ∀ i, i < len → ∃ (k wh : Int) (x z : Nat) (p q s n : Int), (x < 18446744073709551616 ∧ z < 18446744073709551616) ∧ ∀ j u, (#[.int .i64 k, .int .i64 wh, .int .u64 (x : Int), .int .u64 (z : Int), .int .i64 p, .int .i64 q, .int .u32 s, .int .u32 n] : Array Value)[j]? = some u → w.cell? ((y.add (i * 8)).add j) = some u := by
      intro i hi
      obtain ⟨cs, h1, h2⟩ := hx i (by omega)
      obtain ⟨k, wh, a, b, p, q, s, n, rfl, _, va, vb⟩ := trod_op h2
      have ba := bounds_u64 va
      have bb := bounds_u64 vb
      obtain ⟨_, _, hcell⟩ := World.cells?_some h1
      refine ⟨k, wh, a.toNat, b.toNat, p, q, s, n, ⟨by omega, by omega⟩, fun j u hu => ?_⟩
      rw [Int.toNat_of_nonneg (by omega), Int.toNat_of_nonneg (by omega)] at hu
      have hj : j < 8 := by simpa using (Array.getElem?_eq_some_iff.1 hu).1
      rw [hcell j hj]
      simpa using hu
    obtain ⟨b, off, spot⟩ := y
    obtain ⟨k0, _, _, _, _, _, _, _, _, h0⟩ := each 0 hp
    have hc0 := h0 0 _ rfl
    have hspot : spot = none := by simpa [Addr.add] using World.cell?_spot hc0
    subst hspot
    refine ⟨b, off, rfl, ?_, fun i hi => ?_⟩
    · rw [Go.WideShapes.add_plain, Go.WideShapes.add_plain] at hc0
      exact World.block_lt_of_cell? w _ hc0
    · obtain ⟨k, wh, x, z, p, q, s, n, hb, h⟩ := each i hi
      have hh : ∀ j u, _ := h
      refine ⟨k, wh, x, z, p, q, s, n, hb, ?_, ?_, ?_, ?_, ?_, ?_, ?_, ?_⟩
      · have := hh 0 _ rfl; rw [Go.WideShapes.add_plain, Go.WideShapes.add_plain] at this; exact this
      · have := hh 1 _ rfl; rw [Go.WideShapes.add_plain, Go.WideShapes.add_plain] at this; exact this
      · have := hh 2 _ rfl; rw [Go.WideShapes.add_plain, Go.WideShapes.add_plain] at this; exact this
      · have := hh 3 _ rfl; rw [Go.WideShapes.add_plain, Go.WideShapes.add_plain] at this; exact this
      · have := hh 4 _ rfl; rw [Go.WideShapes.add_plain, Go.WideShapes.add_plain] at this; exact this
      · have := hh 5 _ rfl; rw [Go.WideShapes.add_plain, Go.WideShapes.add_plain] at this; exact this
      · have := hh 6 _ rfl; rw [Go.WideShapes.add_plain, Go.WideShapes.add_plain] at this; exact this
      · have := hh 7 _ rfl; rw [Go.WideShapes.add_plain, Go.WideShapes.add_plain] at this; exact this
end

end Go.Proofs.Ytejjhenkhleibaa
