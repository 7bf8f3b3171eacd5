/- Rows that came in. (genop21r.py) -/
import Derived.Test.YtbhbjdmdabkomaaDoorLawTRo
import Derived.WalkKit
import Derived.ProofKit
import Derived.SizedLaws
import Derived.Lib.SmallJoins
import Derived.Deep.Slices
import Derived.OpenShut
namespace Go.Proofs.YtbhbjdmdabkomaaDoor
set_option maxRecDepth 100000
open Go.ChangeShapes Go.WideShapes Go.ChangeAt Go.RowKit Go.Joins Go.Deep
set_option maxRecDepth 100000
theorem lst5 {α : Type} {l : List α} (h : l.length = 5) : ∃ a0 a1 a2 a3 a4, l = [a0, a1, a2, a3, a4] := by
  match l, h with
  | [a0, a1, a2, a3, a4], _ => exact ⟨a0, a1, a2, a3, a4, rfl⟩
section
variable {H : Type} {enc : TypeId × Value → H} {P : Program} {w : World} {base : Nat} {spare : TypeId → Bool} {held : Bool}
theorem trod_st5 {t : TypeId} {f0 f1 f2 f3 f4 : Field} {fuel : Nat} {cs : List Value} {x : DataW H × List MemPlace} (ht : P.underlying t = some (.struct #[f0, f1, f2, f3, f4])) (h : DataW.trod enc P w base spare held fuel t cs = some x) :
    ∃ y0 y1 y2 y3 y4 n, x.1 = .agg [y0.1, y1.1, y2.1, y3.1, y4.1] ∧ cs.length = P.cellsOf t ∧ DataW.trod enc P w base spare held n f0.type ((cs.drop f0.offset).take (P.cellsOf f0.type)) = some y0 ∧ DataW.trod enc P w base spare held n f1.type ((cs.drop f1.offset).take (P.cellsOf f1.type)) = some y1 ∧ DataW.trod enc P w base spare held n f2.type ((cs.drop f2.offset).take (P.cellsOf f2.type)) = some y2 ∧ DataW.trod enc P w base spare held n f3.type ((cs.drop f3.offset).take (P.cellsOf f3.type)) = some y3 ∧ DataW.trod enc P w base spare held n f4.type ((cs.drop f4.offset).take (P.cellsOf f4.type)) = some y4 := by
  obtain ⟨xs, n, _, rfl, hl, hlen, hf⟩ := DataW.trod_struct ht h
  obtain ⟨y0, y1, y2, y3, y4, rfl⟩ := lst5 (l := xs) (by simpa using hlen)
  exact ⟨y0, y1, y2, y3, y4, n, by simp, hl, by simpa using hf 0 f0 rfl, by simpa using hf 1 f1 rfl, by simpa using hf 2 f2 rfl, by simpa using hf 3 f3 rfl, by simpa using hf 4 f4 rfl⟩
end
theorem lst9 {α : Type} {l : List α} (h : l.length = 9) : ∃ a0 a1 a2 a3 a4 a5 a6 a7 a8, l = [a0, a1, a2, a3, a4, a5, a6, a7, a8] := by
  match l, h with
  | [a0, a1, a2, a3, a4, a5, a6, a7, a8], _ => exact ⟨a0, a1, a2, a3, a4, a5, a6, a7, a8, rfl⟩
section
variable {H : Type} {enc : TypeId × Value → H} {P : Program} {w : World} {base : Nat} {spare : TypeId → Bool} {held : Bool}
theorem trod_st9 {t : TypeId} {f0 f1 f2 f3 f4 f5 f6 f7 f8 : Field} {fuel : Nat} {cs : List Value} {x : DataW H × List MemPlace} (ht : P.underlying t = some (.struct #[f0, f1, f2, f3, f4, f5, f6, f7, f8])) (h : DataW.trod enc P w base spare held fuel t cs = some x) :
    ∃ y0 y1 y2 y3 y4 y5 y6 y7 y8 n, x.1 = .agg [y0.1, y1.1, y2.1, y3.1, y4.1, y5.1, y6.1, y7.1, y8.1] ∧ cs.length = P.cellsOf t ∧ DataW.trod enc P w base spare held n f0.type ((cs.drop f0.offset).take (P.cellsOf f0.type)) = some y0 ∧ DataW.trod enc P w base spare held n f1.type ((cs.drop f1.offset).take (P.cellsOf f1.type)) = some y1 ∧ DataW.trod enc P w base spare held n f2.type ((cs.drop f2.offset).take (P.cellsOf f2.type)) = some y2 ∧ DataW.trod enc P w base spare held n f3.type ((cs.drop f3.offset).take (P.cellsOf f3.type)) = some y3 ∧ DataW.trod enc P w base spare held n f4.type ((cs.drop f4.offset).take (P.cellsOf f4.type)) = some y4 ∧ DataW.trod enc P w base spare held n f5.type ((cs.drop f5.offset).take (P.cellsOf f5.type)) = some y5 ∧ DataW.trod enc P w base spare held n f6.type ((cs.drop f6.offset).take (P.cellsOf f6.type)) = some y6 ∧ DataW.trod enc P w base spare held n f7.type ((cs.drop f7.offset).take (P.cellsOf f7.type)) = some y7 ∧ DataW.trod enc P w base spare held n f8.type ((cs.drop f8.offset).take (P.cellsOf f8.type)) = some y8 := by
  obtain ⟨xs, n, _, rfl, hl, hlen, hf⟩ := DataW.trod_struct ht h
  obtain ⟨y0, y1, y2, y3, y4, y5, y6, y7, y8, rfl⟩ := lst9 (l := xs) (by simpa using hlen)
  exact ⟨y0, y1, y2, y3, y4, y5, y6, y7, y8, n, by simp, hl, by simpa using hf 0 f0 rfl, by simpa using hf 1 f1 rfl, by simpa using hf 2 f2 rfl, by simpa using hf 3 f3 rfl, by simpa using hf 4 f4 rfl, by simpa using hf 5 f5 rfl, by simpa using hf 6 f6 rfl, by simpa using hf 7 f7 rfl, by simpa using hf 8 f8 rfl⟩
end
theorem lst29 {α : Type} {l : List α} (h : l.length = 29) : ∃ a0 a1 a2 a3 a4 a5 a6 a7 a8 a9 a10 a11 a12 a13 a14 a15 a16 a17 a18 a19 a20 a21 a22 a23 a24 a25 a26 a27 a28, l = [a0, a1, a2, a3, a4, a5, a6, a7, a8, a9, a10, a11, a12, a13, a14, a15, a16, a17, a18, a19, a20, a21, a22, a23, a24, a25, a26, a27, a28] := by
  match l, h with
  | [a0, a1, a2, a3, a4, a5, a6, a7, a8, a9, a10, a11, a12, a13, a14, a15, a16, a17, a18, a19, a20, a21, a22, a23, a24, a25, a26, a27, a28], _ => exact ⟨a0, a1, a2, a3, a4, a5, a6, a7, a8, a9, a10, a11, a12, a13, a14, a15, a16, a17, a18, a19, a20, a21, a22, a23, a24, a25, a26, a27, a28, rfl⟩
theorem u32_rx {x : Int} (h : (Lit.int .u32 x).wf = true) : ∃ z : Nat, x = (z : Int) ∧ z < 4294967296 := by
  have e1 : IntKind.u32.min = 0 := by decide
  have e2 : IntKind.u32.max = 4294967295 := by decide
  simp [Lit.wf, e1, e2] at h
  exact ⟨x.toNat, by omega, by omega⟩
theorem i64_rx {x : Int} (h : (Lit.int .i64 x).wf = true) : -9223372036854775808 ≤ x ∧ x ≤ 9223372036854775807 := by
  have e1 : IntKind.i64.min = -9223372036854775808 := by decide
  have e2 : IntKind.i64.max = 9223372036854775807 := by decide
  simp [Lit.wf, e1, e2] at h
  exact h
section
variable {H : Type} {enc : TypeId × Value → H} {w : World} {base : Nat} {spare : TypeId → Bool} {held : Bool}
/-- Bytes that came in, and how long they may be. -/
theorem trod_bytesR {fuel : Nat} {v : Value} {x : DataW H × List MemPlace} (h : DataW.trod enc Tryd.prog w base spare held fuel 27 [v] = some x) :
    ∃ (a : Option Addr) (l c : Nat) (bs : Nat → Nat), v = .slice a l c ∧ Row8 w a l c bs ∧ (∀ y, a = some y → 0 < l → y.block < w.heap.size) ∧ ((∀ n ∈ x.1.weights Tryd.prog 27, n ≤ reachBytes) → l ≤ 140737488351232) := by
  rcases open_ints Tryd.underlying27 Tryd.underlying5 (by kernel_rfl) h with ⟨hcs, _⟩ | ⟨y, l, c, zs, hcs, _, hl, hm, hz, hx, hcell, hwz⟩
  · simp at hcs
    exact ⟨none, 0, 0, _, hcs, BRow.row8 (zs := []) (.inl ⟨rfl, rfl, rfl, rfl⟩), (fun y hy => by cases hy), fun _ => by omega⟩
  · simp at hcs
    have hll : l ≤ zs.length := by rw [hz]; split <;> omega
    refine ⟨some y, l, c, _, hcs, (⟨fun i hi => ?_, (fun hx => by cases hx), fun x hx i hi => ?_, hl⟩ : Row8 w (some y) l c (fun i => (zs.getD i 0).toNat)), fun x hx h0 => ?_, fun hs => ?_⟩
    · have := bounds_u8 (hwz (zs.getD i 0) (by rw [List.getD_eq_getElem?_getD, List.getElem?_eq_getElem (by omega)]; exact List.getElem_mem _))
      omega
    · cases hx
      have := bounds_u8 (hwz (zs.getD i 0) (by rw [List.getD_eq_getElem?_getD, List.getElem?_eq_getElem (by omega)]; exact List.getElem_mem _))
      rw [hcell i (by omega), Int.toNat_of_nonneg this.1]
    · cases hx
      have := World.block_lt_of_cell? w _ (hcell 0 (by omega))
      simpa [Addr.add] using this
    · rw [hx] at hs
      have h1 := hs (((lits (H := H) .u8 (zs.take l)).length + (lits (H := H) .u8 (zs.drop l)).length) * Tryd.prog.bytesOf 5) (by simp only [DataW.weights, Tryd.underlying27]; exact List.mem_cons_self)
      rw [show Tryd.prog.bytesOf 5 = 1 by kernel_rfl] at h1
      simp [lits] at h1
      unfold reachBytes at h1
      omega
end
section
variable {H : Type} {enc : TypeId × Value → H} {w : World} {base : Nat} {spare : TypeId → Bool} {held : Bool}
theorem trod_mv {fuel : Nat} {cs : List Value} {x0 : DataW H × List MemPlace} (h : DataW.trod enc Tryd.prog w base spare held fuel 29 cs = some x0) :
    ∃ (m : Mv) (a : Option Addr) (c : Nat), cs = [.int .i64 m.k, .int .i64 m.c, .int .i64 m.s, .int .i64 m.f, .int .i64 m.a, .int .u32 (m.w : Nat), .int .i64 m.n, .bool m.h, .slice a m.l c] ∧ m.Ok ∧ Row8 w a m.l c m.b := by
  obtain ⟨y0, y1, y2, y3, y4, y5, y6, y7, y8, n, hx, hl, g0, g1, g2, g3, g4, g5, g6, g7, g8⟩ := trod_st9 (Tryd.underlying29) h
  obtain ⟨c0, c1, c2, c3, c4, c5, c6, c7, c8, rfl⟩ := lst9 (hl.trans (by kernel_rfl))
  have z0 : Tryd.prog.cellsOf 3 = 1 := by kernel_rfl
  have z1 : Tryd.prog.cellsOf 22 = 1 := by kernel_rfl
  have z2 : Tryd.prog.cellsOf 4 = 1 := by kernel_rfl
  have z3 : Tryd.prog.cellsOf 27 = 1 := by kernel_rfl
  have z4 : Tryd.prog.cellsOf 26 = 1 := by kernel_rfl
  have z5 : Tryd.prog.cellsOf 31 = 1 := by kernel_rfl
  have z6 : Tryd.prog.cellsOf 25 = 1 := by kernel_rfl
  have z7 : Tryd.prog.cellsOf 74 = 1 := by kernel_rfl
  have z8 : Tryd.prog.cellsOf 29 = 9 := by kernel_rfl
  have z9 : Tryd.prog.cellsOf 76 = 9 := by kernel_rfl
  simp [z0, z1, z2, z3, z4, z6] at g0 g1 g2 g3 g4 g5 g6 g7 g8
  obtain ⟨v0, e0, _, w0⟩ := DataW.trod_int Tryd.underlying25 g0
  obtain ⟨v1, e1, _, w1⟩ := DataW.trod_int Tryd.underlying3 g1
  obtain ⟨v2, e2, _, w2⟩ := DataW.trod_int Tryd.underlying26 g2
  obtain ⟨v3, e3, _, w3⟩ := DataW.trod_int Tryd.underlying3 g3
  obtain ⟨v4, e4, _, w4⟩ := DataW.trod_int Tryd.underlying3 g4
  obtain ⟨v5, e5, _, w5⟩ := DataW.trod_int Tryd.underlying22 g5
  obtain ⟨v6, e6, _, w6⟩ := DataW.trod_int Tryd.underlying3 g6
  obtain ⟨v7, e7, _⟩ := DataW.trod_bool Tryd.underlying4 g7
  obtain ⟨a, l, c, bs, e8, R, _, _⟩ := trod_bytesR g8
  obtain ⟨u5, rfl, h5⟩ := u32_rx w5
  simp at e0 e1 e2 e3 e4 e5 e6 e7
  exact ⟨⟨v0, v1, v2, v3, v4, u5, v6, v7, l, bs⟩, a, c, by rw [e0, e1, e2, e3, e4, e5, e6, e7, e8], ⟨i64_rx w0, i64_rx w1, i64_rx w2, i64_rx w3, i64_rx w4, h5, i64_rx w6⟩, R⟩
theorem trod_ed {fuel : Nat} {cs : List Value} {x0 : DataW H × List MemPlace} (h : DataW.trod enc Tryd.prog w base spare held fuel 76 cs = some x0) :
    ∃ (x : Ed) (a : Option Addr) (c : Nat), cs = [.int .i64 x.st, .int .u32 (x.se : Nat), .int .u32 (x.nu : Nat), .int .u32 (x.sn : Nat), .int .i64 x.si, .int .i64 x.la, .bool x.rq, .bool x.on, .slice a x.l c] ∧ x.Ok ∧ Row8 w a x.l c x.b := by
  obtain ⟨y0, y1, y2, y3, y4, y5, y6, y7, y8, n, hx, hl, g0, g1, g2, g3, g4, g5, g6, g7, g8⟩ := trod_st9 (Tryd.underlying76) h
  obtain ⟨c0, c1, c2, c3, c4, c5, c6, c7, c8, rfl⟩ := lst9 (hl.trans (by kernel_rfl))
  have z0 : Tryd.prog.cellsOf 3 = 1 := by kernel_rfl
  have z1 : Tryd.prog.cellsOf 22 = 1 := by kernel_rfl
  have z2 : Tryd.prog.cellsOf 4 = 1 := by kernel_rfl
  have z3 : Tryd.prog.cellsOf 27 = 1 := by kernel_rfl
  have z4 : Tryd.prog.cellsOf 26 = 1 := by kernel_rfl
  have z5 : Tryd.prog.cellsOf 31 = 1 := by kernel_rfl
  have z6 : Tryd.prog.cellsOf 25 = 1 := by kernel_rfl
  have z7 : Tryd.prog.cellsOf 74 = 1 := by kernel_rfl
  have z8 : Tryd.prog.cellsOf 29 = 9 := by kernel_rfl
  have z9 : Tryd.prog.cellsOf 76 = 9 := by kernel_rfl
  simp [z0, z1, z2, z3, z5, z7] at g0 g1 g2 g3 g4 g5 g6 g7 g8
  obtain ⟨v0, e0, _, w0⟩ := DataW.trod_int Tryd.underlying74 g0
  obtain ⟨v1, e1, _, w1⟩ := DataW.trod_int Tryd.underlying22 g1
  obtain ⟨v2, e2, _, w2⟩ := DataW.trod_int Tryd.underlying22 g2
  obtain ⟨v3, e3, _, w3⟩ := DataW.trod_int Tryd.underlying22 g3
  obtain ⟨v4, e4, _, w4⟩ := DataW.trod_int Tryd.underlying3 g4
  obtain ⟨v5, e5, _, w5⟩ := DataW.trod_int Tryd.underlying31 g5
  obtain ⟨v6, e6, _⟩ := DataW.trod_bool Tryd.underlying4 g6
  obtain ⟨v7, e7, _⟩ := DataW.trod_bool Tryd.underlying4 g7
  obtain ⟨a, l, c, bs, e8, R, _, _⟩ := trod_bytesR g8
  obtain ⟨u1, rfl, h1⟩ := u32_rx w1
  obtain ⟨u2, rfl, h2⟩ := u32_rx w2
  obtain ⟨u3, rfl, h3⟩ := u32_rx w3
  simp at e0 e1 e2 e3 e4 e5 e6 e7
  exact ⟨⟨v0, u1, u2, u3, v4, v5, v6, v7, l, bs⟩, a, c, by rw [e0, e1, e2, e3, e4, e5, e6, e7, e8], ⟨i64_rx w0, h1, h2, h3, i64_rx w4, i64_rx w5⟩, R⟩
theorem trod_rx {fuel : Nat} {cs : List Value} {x0 : DataW H × List MemPlace} (h : DataW.trod enc Tryd.prog w base spare held fuel 78 cs = some x0) :
    ∃ (r : Rx) (x : Rd), cs = r.cs x ∧ r.Ok ∧ r.Rows x w := by
  obtain ⟨y0, y1, y2, y3, y4, n, hx, hl, g0, g1, g2, g3, g4⟩ := trod_st5 (Tryd.underlying78) h
  obtain ⟨c0, c1, c2, c3, c4, c5, c6, c7, c8, c9, c10, c11, c12, c13, c14, c15, c16, c17, c18, c19, c20, c21, c22, c23, c24, c25, c26, c27, c28, rfl⟩ := lst29 (hl.trans (by kernel_rfl))
  have z0 : Tryd.prog.cellsOf 3 = 1 := by kernel_rfl
  have z1 : Tryd.prog.cellsOf 22 = 1 := by kernel_rfl
  have z2 : Tryd.prog.cellsOf 4 = 1 := by kernel_rfl
  have z3 : Tryd.prog.cellsOf 27 = 1 := by kernel_rfl
  have z4 : Tryd.prog.cellsOf 26 = 1 := by kernel_rfl
  have z5 : Tryd.prog.cellsOf 31 = 1 := by kernel_rfl
  have z6 : Tryd.prog.cellsOf 25 = 1 := by kernel_rfl
  have z7 : Tryd.prog.cellsOf 74 = 1 := by kernel_rfl
  have z8 : Tryd.prog.cellsOf 29 = 9 := by kernel_rfl
  have z9 : Tryd.prog.cellsOf 76 = 9 := by kernel_rfl
  simp [z0, z5, z8, z9] at g0 g1 g2 g3 g4
  obtain ⟨m, a1, d1, e0, om, R1⟩ := trod_mv g0
  obtain ⟨v1, e1, _, w1⟩ := DataW.trod_int Tryd.underlying31 g1
  obtain ⟨v2, e2, _, w2⟩ := DataW.trod_int Tryd.underlying3 g2
  obtain ⟨eh, a2, d2, e3, oh, R2⟩ := trod_ed g3
  obtain ⟨ev, a3, d3, e4, ov, R3⟩ := trod_ed g4
  simp only [List.cons.injEq, and_true] at e0 e1 e2 e3 e4
  obtain ⟨rfl, rfl, rfl, rfl, rfl, rfl, rfl, rfl, rfl⟩ := e0
  obtain ⟨rfl, rfl, rfl, rfl, rfl, rfl, rfl, rfl, rfl⟩ := e3
  obtain ⟨rfl, rfl, rfl, rfl, rfl, rfl, rfl, rfl, rfl⟩ := e4
  subst e1 e2
  exact ⟨⟨m, v1, v2, eh, ev⟩, ⟨a1, d1, a2, d2, a3, d3⟩, rfl, ⟨om, i64_rx w1, i64_rx w2, oh, ov⟩, ⟨R1, R2, R3⟩⟩
theorem open_rxs {a : Option Addr} {len cap : Nat} {d : DataW H} {p : List MemPlace} (h : DataW.Trod enc Tryd.prog w base spare held 72 (.slice a len cap) d p) : len ≤ 9223372036854775807 ∧ ∃ R D, RxRow w a len R D ∧ ∀ i, i < len → (R i).Ok := by
  obtain ⟨fuel, hf⟩ := h
  rcases open_slice Tryd.underlying72 hf with ⟨hcs, _⟩ | ⟨y, l, cp, m, n, Dd, Pl, hcs, _, hl, hm, hmm, hxx, hx⟩
  · simp [Value.cells] at hcs
    obtain ⟨_, rfl, _⟩ := hcs
    exact ⟨by omega, fun _ => ⟨⟨0, 0, 0, 0, 0, 0, 0, false, 0, fun _ => 0⟩, 0, 0, ⟨0, 0, 0, 0, 0, 0, false, false, 0, fun _ => 0⟩, ⟨0, 0, 0, 0, 0, 0, false, false, 0, fun _ => 0⟩⟩, fun _ => ⟨none, 0, none, 0, none, 0⟩, fun i hi => by omega, fun i hi => by omega⟩
  · simp [Value.cells] at hcs
    obtain ⟨rfl, rfl, rfl⟩ := hcs
    refine ⟨by unfold maxLen at hm; omega, ?_⟩
    have hlm : len ≤ m := by rw [hmm]; split <;> omega
    have ce : Tryd.prog.cellsOf 78 = 29 := by kernel_rfl
    rw [ce] at hx
    have each : ∀ i, ∃ (z : Rx × Rd), i < len → (∀ j u, (z.1.cs z.2)[j]? = some u → w.cell? ((y.add (i * 29)).add j) = some u) ∧ z.1.Rows z.2 w ∧ z.1.Ok := by
      intro i
      by_cases hi : i < len
      · obtain ⟨cs, h1, h2⟩ := hx i (by omega)
        obtain ⟨r, x, rfl, ok, R⟩ := trod_rx h2
        obtain ⟨_, _, hcell⟩ := World.cells?_some h1
        refine ⟨(r, x), fun _ => ⟨fun j u hu => ?_, R, ok⟩⟩
        have hj : j < 29 := by
          have := (List.getElem?_eq_some_iff.1 hu).1
          exact this
        rw [hcell j hj]
        simpa using hu
      · exact ⟨(⟨⟨0, 0, 0, 0, 0, 0, 0, false, 0, fun _ => 0⟩, 0, 0, ⟨0, 0, 0, 0, 0, 0, false, false, 0, fun _ => 0⟩, ⟨0, 0, 0, 0, 0, 0, false, false, 0, fun _ => 0⟩⟩, ⟨none, 0, none, 0, none, 0⟩), fun q => absurd q hi⟩
    obtain ⟨G, hG⟩ := Classical.axiomOfChoice each
    refine ⟨fun i => (G i).1, fun i => (G i).2, fun i hi => ?_, fun i hi => (hG i hi).2.2⟩
    obtain ⟨hh, R, ok⟩ := hG i hi
    obtain ⟨b, off, spot⟩ := y
    have hc0 := (hG 0 (by omega)).1 0 _ rfl
    have hspot : spot = none := by simpa [Addr.add] using World.cell?_spot hc0
    subst hspot
    refine ⟨b, off, rfl, fun j u hu => ?_, R⟩
    have := hh j u hu
    rw [Go.WideShapes.add_plain, Go.WideShapes.add_plain] at this
    exact this
end
end Go.Proofs.YtbhbjdmdabkomaaDoor
