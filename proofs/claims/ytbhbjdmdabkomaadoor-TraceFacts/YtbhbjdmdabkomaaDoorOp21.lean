/- Facts that came in, for the lines (after Op18). -/
import Derived.Test.YtbhbjdmdabkomaaDoorLawTFa
import Derived.WalkKit
import Derived.ProofKit
import Derived.SizedLaws
import Derived.Lib.SmallJoins
import Derived.Deep.Slices
import Derived.OpenShut
namespace Go.Proofs.YtbhbjdmdabkomaaDoor
set_option maxRecDepth 100000
open Go.ChangeShapes Go.WideShapes Go.ChangeAt Go.RowKit Go.Joins Go.Deep

theorem eight {α : Type} {l : List α} (h : l.length = 8) : ∃ a b c d e f g k, l = [a, b, c, d, e, f, g, k] := by
  match l, h with
  | [a, b, c, d, e, f, g, k], _ => exact ⟨a, b, c, d, e, f, g, k, rfl⟩
theorem mem_weightsAll {H : Type} {P : Program} {e : TypeId} {n : Nat} {d : DataW H} (hn : n ∈ d.weights P e) : ∀ {l : List (DataW H)}, d ∈ l → n ∈ DataW.weightsAll P e l
  | [], h => by cases h
  | x :: r, h => by
    simp only [DataW.weightsAll, List.mem_append]
    rcases List.mem_cons.1 h with rfl | h
    · exact .inl hn
    · exact .inr (mem_weightsAll hn h)
section
variable {H : Type} {enc : TypeId × Value → H} {P : Program} {w : World} {base : Nat} {spare : TypeId → Bool} {held : Bool}
theorem trod_struct8 {t : TypeId} {f0 f1 f2 f3 f4 f5 f6 f7 : Field} {fuel : Nat} {cs : List Value} {x : DataW H × List MemPlace} (ht : P.underlying t = some (.struct #[f0, f1, f2, f3, f4, f5, f6, f7])) (h : DataW.trod enc P w base spare held fuel t cs = some x) :
    ∃ y0 y1 y2 y3 y4 y5 y6 y7 n, x.1 = .agg [y0.1, y1.1, y2.1, y3.1, y4.1, y5.1, y6.1, y7.1] ∧ cs.length = P.cellsOf t ∧ DataW.trod enc P w base spare held n f0.type ((cs.drop f0.offset).take (P.cellsOf f0.type)) = some y0 ∧ DataW.trod enc P w base spare held n f1.type ((cs.drop f1.offset).take (P.cellsOf f1.type)) = some y1 ∧ DataW.trod enc P w base spare held n f2.type ((cs.drop f2.offset).take (P.cellsOf f2.type)) = some y2 ∧ DataW.trod enc P w base spare held n f3.type ((cs.drop f3.offset).take (P.cellsOf f3.type)) = some y3 ∧ DataW.trod enc P w base spare held n f4.type ((cs.drop f4.offset).take (P.cellsOf f4.type)) = some y4 ∧ DataW.trod enc P w base spare held n f5.type ((cs.drop f5.offset).take (P.cellsOf f5.type)) = some y5 ∧ DataW.trod enc P w base spare held n f6.type ((cs.drop f6.offset).take (P.cellsOf f6.type)) = some y6 ∧ DataW.trod enc P w base spare held n f7.type ((cs.drop f7.offset).take (P.cellsOf f7.type)) = some y7 := by
  obtain ⟨xs, n, _, rfl, hl, hlen, hf⟩ := DataW.trod_struct ht h
  obtain ⟨y0, y1, y2, y3, y4, y5, y6, y7, rfl⟩ := eight (l := xs) (by simpa using hlen)
  exact ⟨y0, y1, y2, y3, y4, y5, y6, y7, n, by simp, hl, by simpa using hf 0 f0 rfl, by simpa using hf 1 f1 rfl, by simpa using hf 2 f2 rfl, by simpa using hf 3 f3 rfl, by simpa using hf 4 f4 rfl, by simpa using hf 5 f5 rfl, by simpa using hf 6 f6 rfl, by simpa using hf 7 f7 rfl⟩
end
theorem max_i64 {x : Int} (h : (Lit.int .i64 x).wf = true) : x ≤ 9223372036854775807 := by
  have e2 : IntKind.i64.max = 9223372036854775807 := by decide
  simp [Lit.wf, e2] at h
  exact h.2
theorem nat_u32 {x : Int} (h : (Lit.int .u32 x).wf = true) : ∃ z : Nat, x = (z : Int) ∧ z < 4294967296 := by
  have e1 : IntKind.u32.min = 0 := by decide
  have e2 : IntKind.u32.max = 4294967295 := by decide
  simp [Lit.wf, e1, e2] at h
  exact ⟨x.toNat, by omega, by omega⟩
section
variable {H : Type} {enc : TypeId × Value → H} {w : World} {base : Nat} {spare : TypeId → Bool} {held : Bool}
/-- Bytes that came in, and how long they may be. -/
theorem trod_bytes {fuel : Nat} {v : Value} {x : DataW H × List MemPlace} (h : DataW.trod enc Tryd.prog w base spare held fuel 27 [v] = some x) :
    ∃ (a : Option Addr) (l c : Nat) (bs : Nat → Nat), v = .slice a l c ∧ Row8 w a l c bs ∧ (∀ y, a = some y → 0 < l → y.block < w.heap.size) ∧ ((∀ n ∈ x.1.weights Tryd.prog 27, n ≤ reachBytes) → l ≤ 140737488351232) := by
  rcases open_ints Tryd.underlying27 Tryd.underlying5 (by kernel_rfl) h with ⟨hcs, _⟩ | ⟨y, l, c, zs, hcs, _, hl, hm, hz, hx, hcell, hwz⟩
  · simp at hcs
    exact ⟨none, 0, 0, _, hcs, BRow.row8 (zs := []) (.inl ⟨rfl, rfl, rfl, rfl⟩), (fun y hy => by cases hy), fun _ => by omega⟩
  · simp at hcs
    have hll : l ≤ zs.length := by rw [hz]; split <;> omega
    refine ⟨some y, l, c, _, hcs, (⟨fun i hi => ?_, (fun hx => by cases hx), fun x hx i hi => ?_, hl⟩ : Row8 w (some y) l c (fun i => (zs.getD i 0).toNat)), fun x hx h0 => ?_, fun hs => ?_⟩
    · have := bounds_u8 (hwz (zs.getD i 0) (by rw [List.getD_eq_getElem?_getD, List.getElem?_eq_getElem (by omega)]; exact List.getElem_mem _))
      omega
    · cases hx
      have := bounds_u8 (hwz (zs.getD i 0) (by rw [List.getD_eq_getElem?_getD, List.getElem?_eq_getElem (by omega)]; exact List.getElem_mem _))
      rw [hcell i (by omega), Int.toNat_of_nonneg this.1]
    · cases hx
      have := World.block_lt_of_cell? w _ (hcell 0 (by omega))
      simpa [Addr.add] using this
    · rw [hx] at hs
      have h1 := hs (((lits (H := H) .u8 (zs.take l)).length + (lits (H := H) .u8 (zs.drop l)).length) * Tryd.prog.bytesOf 5) (by simp only [DataW.weights, Tryd.underlying27]; exact List.mem_cons_self)
      rw [show Tryd.prog.bytesOf 5 = 1 by kernel_rfl] at h1
      simp [lits] at h1
      unfold reachBytes at h1
      omega
end
section
variable {H : Type} {enc : TypeId × Value → H} {w : World} {base : Nat} {spare : TypeId → Bool} {held : Bool}
theorem trod_fk {fuel : Nat} {cs : List Value} {x0 : DataW H × List MemPlace} (h : DataW.trod enc Tryd.prog w base spare held fuel 91 cs = some x0) :
    ∃ (fk fc fs : Int) (ss nn : Nat) (on : Bool) (cd : Int) (x : Option Addr) (l c : Nat) (bs : Nat → Nat), cs = [.int .i64 fk, .int .i64 fc, .int .i64 fs, .int .u32 (ss : Nat), .int .u32 (nn : Nat), .bool on, .int .i64 cd, .slice x l c] ∧ Row8 w x l c bs ∧ (∀ y, x = some y → 0 < l → y.block < w.heap.size) ∧ (Lit.int .i64 fc).wf = true ∧ (Lit.int .i64 fs).wf = true ∧ (Lit.int .i64 cd).wf = true ∧ ss < 4294967296 ∧ nn < 4294967296 ∧ ((∀ n ∈ x0.1.weights Tryd.prog 91, n ≤ reachBytes) → l ≤ 140737488351232) := by
  obtain ⟨y0, y1, y2, y3, y4, y5, y6, y7, n, hx, hl, g0, g1, g2, g3, g4, g5, g6, g7⟩ := trod_struct8 (Tryd.underlying91) h
  obtain ⟨c0, c1, c2, c3, c4, c5, c6, c7, rfl⟩ := eight (hl.trans (by kernel_rfl))
  have z0 : Tryd.prog.cellsOf 89 = 1 := by kernel_rfl
  have z1 : Tryd.prog.cellsOf 3 = 1 := by kernel_rfl
  have z2 : Tryd.prog.cellsOf 26 = 1 := by kernel_rfl
  have z3 : Tryd.prog.cellsOf 22 = 1 := by kernel_rfl
  have z4 : Tryd.prog.cellsOf 4 = 1 := by kernel_rfl
  have z5 : Tryd.prog.cellsOf 31 = 1 := by kernel_rfl
  have z6 : Tryd.prog.cellsOf 27 = 1 := by kernel_rfl
  simp [z0, z1, z2, z3, z4, z5, z6] at g0 g1 g2 g3 g4 g5 g6 g7
  obtain ⟨fk, e0, _⟩ := DataW.trod_int Tryd.underlying89 g0
  obtain ⟨fc, e1, _, wc⟩ := DataW.trod_int Tryd.underlying3 g1
  obtain ⟨fs, e2, _, ws⟩ := DataW.trod_int Tryd.underlying26 g2
  obtain ⟨s1, e3, _, w3⟩ := DataW.trod_int Tryd.underlying22 g3
  obtain ⟨n1, e4, _, w4⟩ := DataW.trod_int Tryd.underlying22 g4
  obtain ⟨on, e5, _⟩ := DataW.trod_bool Tryd.underlying4 g5
  obtain ⟨cd, e6, _, wd⟩ := DataW.trod_int Tryd.underlying31 g6
  obtain ⟨a, l, c, bs, e7, R, hlow, hs⟩ := trod_bytes g7
  obtain ⟨ss, rfl, hss⟩ := nat_u32 w3
  obtain ⟨nn, rfl, hnn⟩ := nat_u32 w4
  simp at e0 e1 e2 e3 e4 e5 e6
  refine ⟨fk, fc, fs, ss, nn, on, cd, a, l, c, bs, by rw [e0, e1, e2, e3, e4, e5, e6, e7], R, hlow, wc, ws, wd, hss, hnn, fun hn => hs fun m hm => hn m ?_⟩
  rw [hx]
  have hu : DataW.weights (H := H) Tryd.prog 91 (.agg [y0.1, y1.1, y2.1, y3.1, y4.1, y5.1, y6.1, y7.1]) = y0.1.weights Tryd.prog 89 ++ (y1.1.weights Tryd.prog 3 ++ (y2.1.weights Tryd.prog 26 ++ (y3.1.weights Tryd.prog 22 ++ (y4.1.weights Tryd.prog 22 ++ (y5.1.weights Tryd.prog 4 ++ (y6.1.weights Tryd.prog 31 ++ (y7.1.weights Tryd.prog 27 ++ []))))))) := by
    simp [DataW.weights, Tryd.underlying91, DataW.weightsEach]
  rw [hu]
  simp [hm]
theorem i64_fk {x : Int} (h : (Lit.int .i64 x).wf = true) : -9223372036854775808 ≤ x ∧ x ≤ 9223372036854775807 := by
  have e1 : IntKind.i64.min = -9223372036854775808 := by decide
  have e2 : IntKind.i64.max = 9223372036854775807 := by decide
  simp [Lit.wf, e1, e2] at h
  exact h
theorem open_fks {a : Option Addr} {len cap : Nat} {d : DataW H} {p : List MemPlace} (h : DataW.Trod enc Tryd.prog w base spare held 88 (.slice a len cap) d p) : len ≤ 9223372036854775807 ∧ ∃ F D E, FkRow w a len F D E := by
  obtain ⟨fuel, hf⟩ := h
  rcases open_slice Tryd.underlying88 hf with ⟨hcs, _⟩ | ⟨y, l, cp, m, n, Dd, Pl, hcs, _, hl, hm, hmm, hxx, hx⟩
  · simp [Value.cells] at hcs
    obtain ⟨_, rfl, _⟩ := hcs
    exact ⟨by omega, fun _ => ⟨0, 0, 0, 0, 0, false, 0, 0, fun _ => 0⟩, fun _ => none, fun _ => 0, fun i hi => by omega⟩
  · simp [Value.cells] at hcs
    obtain ⟨rfl, rfl, rfl⟩ := hcs
    refine ⟨by unfold maxLen at hm; omega, ?_⟩
    have hlm : len ≤ m := by rw [hmm]; split <;> omega
    have ce : Tryd.prog.cellsOf 91 = 8 := by kernel_rfl
    rw [ce] at hx
    have each : ∀ i, ∃ (x : Fk × Option Addr × Nat), i < len → (∀ j u, (#[.int .i64 x.1.k, .int .i64 x.1.c, .int .i64 x.1.s, .int .u32 (x.1.ss : Nat), .int .u32 (x.1.nn : Nat), .bool x.1.on, .int .i64 x.1.cd, .slice x.2.1 x.1.l x.2.2] : Array Value)[j]? = some u → w.cell? ((y.add (i * 8)).add j) = some u) ∧ Row8 w x.2.1 x.1.l x.2.2 x.1.b ∧ x.1.Ok := by
      intro i
      by_cases hi : i < len
      · obtain ⟨cs, h1, h2⟩ := hx i (by omega)
        obtain ⟨fk, fc, fs, ss, nn, on, cd, x, l, c, bs, rfl, R, _, wc, _, wd, hss, hnn, _⟩ := trod_fk h2
        obtain ⟨_, _, hcell⟩ := World.cells?_some h1
        refine ⟨(⟨fk, fc, fs, ss, nn, on, cd, l, bs⟩, x, c), fun _ => ⟨fun j u hu => ?_, R, ⟨i64_fk wc, hss, hnn, i64_fk wd⟩⟩⟩
        have hj : j < 8 := by simpa using (Array.getElem?_eq_some_iff.1 hu).1
        rw [hcell j hj]
        simpa using hu
      · exact ⟨(⟨0, 0, 0, 0, 0, false, 0, 0, fun _ => 0⟩, none, 0), fun q => absurd q hi⟩
    obtain ⟨G, hG⟩ := Classical.axiomOfChoice each
    refine ⟨fun i => (G i).1, fun i => (G i).2.1, fun i => (G i).2.2, fun i hi => ?_⟩
    obtain ⟨hh, R, ok⟩ := hG i hi
    obtain ⟨b, off, spot⟩ := y
    have hc0 := (hG 0 (by omega)).1 0 _ rfl
    have hspot : spot = none := by simpa [Addr.add] using World.cell?_spot hc0
    subst hspot
    refine ⟨b, off, rfl, ?_, ?_, ?_, ?_, ?_, ?_, ?_, ?_, R, ok⟩
    · have := hh 0 _ rfl; rw [Go.WideShapes.add_plain, Go.WideShapes.add_plain] at this; exact this
    · have := hh 1 _ rfl; rw [Go.WideShapes.add_plain, Go.WideShapes.add_plain] at this; exact this
    · have := hh 2 _ rfl; rw [Go.WideShapes.add_plain, Go.WideShapes.add_plain] at this; exact this
    · have := hh 3 _ rfl; rw [Go.WideShapes.add_plain, Go.WideShapes.add_plain] at this; exact this
    · have := hh 4 _ rfl; rw [Go.WideShapes.add_plain, Go.WideShapes.add_plain] at this; exact this
    · have := hh 5 _ rfl; rw [Go.WideShapes.add_plain, Go.WideShapes.add_plain] at this; exact this
    · have := hh 6 _ rfl; rw [Go.WideShapes.add_plain, Go.WideShapes.add_plain] at this; exact this
    · have := hh 7 _ rfl; rw [Go.WideShapes.add_plain, Go.WideShapes.add_plain] at this; exact this
end
end Go.Proofs.YtbhbjdmdabkomaaDoor
