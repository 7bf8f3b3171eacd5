/- A struct of 3 one-cell fields that comes in by value, opened. (mkagg.py 3) -/
import Derived.Test.YtnmnjcjfgbpkaaaDoorProg
import Derived.Test.YtnmnjcjfgbpkaaaDoorJLawSPr
import Derived.WalkKit
import Derived.ProofKit
import Derived.Lib.SmallJoins
import Derived.SizedLaws
import Derived.Deep.Slices
import Derived.OpenShut
namespace Go.Proofs.YtnmnjcjfgbpkaaaDoor
set_option maxRecDepth 100000
open Go.ChangeShapes Go.WideShapes Go.ChangeAt Go.RowKit Go.Joins Go.Deep

theorem list3 {α : Type} {l : List α} (h : l.length = 3) : ∃ c0 c1 c2, l = [c0, c1, c2] := by
  match l, h with
  | [c0, c1, c2], _ => exact ⟨c0, c1, c2, rfl⟩
theorem array3 {α : Type} {cs : Array α} (h : cs.size = 3) : ∃ c0 c1 c2, cs = #[c0, c1, c2] := by
  obtain ⟨l⟩ := cs
  obtain ⟨c0, c1, c2, rfl⟩ := list3 (l := l) (by simpa using h)
  exact ⟨c0, c1, c2, rfl⟩
theorem open_agg3 {H : Type} {enc : TypeId × Value → H} {P : Program} {w : World} {base : Nat} {spare : TypeId → Bool} {held : Bool} {r : Reach} {b0 : Nat} {t : TypeId} {f0 f1 f2 : Field} {v : Value} {d : DataW H} {p : List MemPlace}
    (hs : P.underlying t = some (.struct #[f0, f1, f2])) (hone : oneCellFields P #[f0, f1, f2] = true) (hC : P.cellsOf t = 3) (hv : Value.okWide P w r b0 t v) (h : DataW.Trod enc P w base spare held t v d p) :
    ∃ (v0 v1 v2 : Value) (y0 y1 y2 : DataW H × List MemPlace) (n : Nat), v = .agg #[v0, v1, v2] ∧
      DataW.trod enc P w base spare held n f0.type [v0] = some y0 ∧ DataW.trod enc P w base spare held n f1.type [v1] = some y1 ∧ DataW.trod enc P w base spare held n f2.type [v2] = some y2 := by
  obtain ⟨cs, rfl, hsz⟩ := okWide_struct hs hv
  obtain ⟨c0, c1, c2, rfl⟩ := array3 (hsz.trans hC)
  obtain ⟨fuel, hf⟩ := h
  obtain ⟨xs, n, _, _, _, hlen, hx⟩ := DataW.trod_struct hs hf
  obtain ⟨y0, y1, y2, rfl⟩ := list3 (l := xs) (by simpa using hlen)
  obtain ⟨o0, k0⟩ := hone_of hone 0 f0 rfl
  obtain ⟨o1, k1⟩ := hone_of hone 1 f1 rfl
  obtain ⟨o2, k2⟩ := hone_of hone 2 f2 rfl
  exact ⟨c0, c1, c2, y0, y1, y2, n, rfl, by simpa [Value.cells, o0, k0] using hx 0 f0 rfl, by simpa [Value.cells, o1, k1] using hx 1 f1 rfl, by simpa [Value.cells, o2, k2] using hx 2 f2 rfl⟩
end Go.Proofs.YtnmnjcjfgbpkaaaDoor
namespace Go.Proofs.YtnmnjcjfgbpkaaaDoor
set_option maxRecDepth 100000
open Go.ChangeShapes Go.WideShapes Go.ChangeAt Go.RowKit Go.Joins Go.Deep
set_option maxRecDepth 100000
theorem lsn5 {α : Type} {l : List α} (h : l.length = 5) : ∃ a0 a1 a2 a3 a4, l = [a0, a1, a2, a3, a4] := by
  match l, h with
  | [a0, a1, a2, a3, a4], _ => exact ⟨a0, a1, a2, a3, a4, rfl⟩
section
variable {H : Type} {enc : TypeId × Value → H} {P : Program} {w : World} {base : Nat} {spare : TypeId → Bool} {held : Bool}
theorem trod_sn5 {t : TypeId} {f0 f1 f2 f3 f4 : Field} {fuel : Nat} {cs : List Value} {x : DataW H × List MemPlace} (ht : P.underlying t = some (.struct #[f0, f1, f2, f3, f4])) (h : DataW.trod enc P w base spare held fuel t cs = some x) :
    ∃ y0 y1 y2 y3 y4 n, x.1 = .agg [y0.1, y1.1, y2.1, y3.1, y4.1] ∧ cs.length = P.cellsOf t ∧ DataW.trod enc P w base spare held n f0.type ((cs.drop f0.offset).take (P.cellsOf f0.type)) = some y0 ∧ DataW.trod enc P w base spare held n f1.type ((cs.drop f1.offset).take (P.cellsOf f1.type)) = some y1 ∧ DataW.trod enc P w base spare held n f2.type ((cs.drop f2.offset).take (P.cellsOf f2.type)) = some y2 ∧ DataW.trod enc P w base spare held n f3.type ((cs.drop f3.offset).take (P.cellsOf f3.type)) = some y3 ∧ DataW.trod enc P w base spare held n f4.type ((cs.drop f4.offset).take (P.cellsOf f4.type)) = some y4 := by
  obtain ⟨xs, n, _, rfl, hl, hlen, hf⟩ := DataW.trod_struct ht h
  obtain ⟨y0, y1, y2, y3, y4, rfl⟩ := lsn5 (l := xs) (by simpa using hlen)
  exact ⟨y0, y1, y2, y3, y4, n, by simp, hl, by simpa using hf 0 f0 rfl, by simpa using hf 1 f1 rfl, by simpa using hf 2 f2 rfl, by simpa using hf 3 f3 rfl, by simpa using hf 4 f4 rfl⟩
end
theorem lsn9 {α : Type} {l : List α} (h : l.length = 9) : ∃ a0 a1 a2 a3 a4 a5 a6 a7 a8, l = [a0, a1, a2, a3, a4, a5, a6, a7, a8] := by
  match l, h with
  | [a0, a1, a2, a3, a4, a5, a6, a7, a8], _ => exact ⟨a0, a1, a2, a3, a4, a5, a6, a7, a8, rfl⟩
section
variable {H : Type} {enc : TypeId × Value → H} {P : Program} {w : World} {base : Nat} {spare : TypeId → Bool} {held : Bool}
theorem trod_sn9 {t : TypeId} {f0 f1 f2 f3 f4 f5 f6 f7 f8 : Field} {fuel : Nat} {cs : List Value} {x : DataW H × List MemPlace} (ht : P.underlying t = some (.struct #[f0, f1, f2, f3, f4, f5, f6, f7, f8])) (h : DataW.trod enc P w base spare held fuel t cs = some x) :
    ∃ y0 y1 y2 y3 y4 y5 y6 y7 y8 n, x.1 = .agg [y0.1, y1.1, y2.1, y3.1, y4.1, y5.1, y6.1, y7.1, y8.1] ∧ cs.length = P.cellsOf t ∧ DataW.trod enc P w base spare held n f0.type ((cs.drop f0.offset).take (P.cellsOf f0.type)) = some y0 ∧ DataW.trod enc P w base spare held n f1.type ((cs.drop f1.offset).take (P.cellsOf f1.type)) = some y1 ∧ DataW.trod enc P w base spare held n f2.type ((cs.drop f2.offset).take (P.cellsOf f2.type)) = some y2 ∧ DataW.trod enc P w base spare held n f3.type ((cs.drop f3.offset).take (P.cellsOf f3.type)) = some y3 ∧ DataW.trod enc P w base spare held n f4.type ((cs.drop f4.offset).take (P.cellsOf f4.type)) = some y4 ∧ DataW.trod enc P w base spare held n f5.type ((cs.drop f5.offset).take (P.cellsOf f5.type)) = some y5 ∧ DataW.trod enc P w base spare held n f6.type ((cs.drop f6.offset).take (P.cellsOf f6.type)) = some y6 ∧ DataW.trod enc P w base spare held n f7.type ((cs.drop f7.offset).take (P.cellsOf f7.type)) = some y7 ∧ DataW.trod enc P w base spare held n f8.type ((cs.drop f8.offset).take (P.cellsOf f8.type)) = some y8 := by
  obtain ⟨xs, n, _, rfl, hl, hlen, hf⟩ := DataW.trod_struct ht h
  obtain ⟨y0, y1, y2, y3, y4, y5, y6, y7, y8, rfl⟩ := lsn9 (l := xs) (by simpa using hlen)
  exact ⟨y0, y1, y2, y3, y4, y5, y6, y7, y8, n, by simp, hl, by simpa using hf 0 f0 rfl, by simpa using hf 1 f1 rfl, by simpa using hf 2 f2 rfl, by simpa using hf 3 f3 rfl, by simpa using hf 4 f4 rfl, by simpa using hf 5 f5 rfl, by simpa using hf 6 f6 rfl, by simpa using hf 7 f7 rfl, by simpa using hf 8 f8 rfl⟩
end
theorem mem_weightsN {H : Type} {P : Program} {e : TypeId} {n : Nat} {d : DataW H} (hn : n ∈ d.weights P e) : ∀ {l : List (DataW H)}, d ∈ l → n ∈ DataW.weightsAll P e l
  | [], h => by cases h
  | x :: r, h => by
    simp only [DataW.weightsAll, List.mem_append]
    rcases List.mem_cons.1 h with rfl | h
    · exact .inl hn
    · exact .inr (mem_weightsN hn h)
theorem u32_sn {x : Int} (h : (Lit.int .u32 x).wf = true) : ∃ z : Nat, x = (z : Int) ∧ z < 4294967296 := by
  have e1 : IntKind.u32.min = 0 := by decide
  have e2 : IntKind.u32.max = 4294967295 := by decide
  simp [Lit.wf, e1, e2] at h
  exact ⟨x.toNat, by omega, by omega⟩
theorem i64_sn {x : Int} (h : (Lit.int .i64 x).wf = true) : -9223372036854775808 ≤ x ∧ x ≤ 9223372036854775807 := by
  have e1 : IntKind.i64.min = -9223372036854775808 := by decide
  have e2 : IntKind.i64.max = 9223372036854775807 := by decide
  simp [Lit.wf, e1, e2] at h
  exact h
section
variable {H : Type} {enc : TypeId × Value → H} {w : World} {base : Nat} {spare : TypeId → Bool} {held : Bool}
/-- Bytes that came in, and how long they may be. -/
theorem trod_bytesN {fuel : Nat} {v : Value} {x : DataW H × List MemPlace} (h : DataW.trod enc Tryd.prog w base spare held fuel 43 [v] = some x) :
    ∃ (a : Option Addr) (l c : Nat) (bs : Nat → Nat), v = .slice a l c ∧ Row8 w a l c bs ∧ ((∀ n ∈ x.1.weights Tryd.prog 43, n ≤ reachBytes) → l ≤ 140737488351232) := by
  rcases open_ints Tryd.underlying43 Tryd.underlying5 (by kernel_rfl) h with ⟨hcs, _⟩ | ⟨y, l, c, zs, hcs, _, hl, hm, hz, hx, hcell, hwz⟩
  · simp at hcs
    exact ⟨none, 0, 0, _, hcs, BRow.row8 (zs := []) (.inl ⟨rfl, rfl, rfl, rfl⟩), fun _ => by omega⟩
  · simp at hcs
    have hll : l ≤ zs.length := by rw [hz]; split <;> omega
    refine ⟨some y, l, c, _, hcs, (⟨fun i hi => ?_, (fun hx => by cases hx), fun x hx i hi => ?_, hl⟩ : Row8 w (some y) l c (fun i => (zs.getD i 0).toNat)), fun hs => ?_⟩
    · have := bounds_u8 (hwz (zs.getD i 0) (by rw [List.getD_eq_getElem?_getD, List.getElem?_eq_getElem (by omega)]; exact List.getElem_mem _))
      omega
    · cases hx
      have := bounds_u8 (hwz (zs.getD i 0) (by rw [List.getD_eq_getElem?_getD, List.getElem?_eq_getElem (by omega)]; exact List.getElem_mem _))
      rw [hcell i (by omega), Int.toNat_of_nonneg this.1]
    · rw [hx] at hs
      have h1 := hs (((lits (H := H) .u8 (zs.take l)).length + (lits (H := H) .u8 (zs.drop l)).length) * Tryd.prog.bytesOf 5) (by simp only [DataW.weights, Tryd.underlying43]; exact List.mem_cons_self)
      rw [show Tryd.prog.bytesOf 5 = 1 by kernel_rfl] at h1
      simp [lits] at h1
      unfold reachBytes at h1
      omega
end
section
variable {H : Type} {enc : TypeId × Value → H} {w : World} {base : Nat} {spare : TypeId → Bool} {held : Bool}
theorem trod_mvN {fuel : Nat} {cs : List Value} {x0 : DataW H × List MemPlace} (h : DataW.trod enc Tryd.prog w base spare held fuel 45 cs = some x0) :
    ∃ (m : Mv) (d : Md), cs = m.ls d ∧ m.Ok ∧ Row8 w d.a m.l d.c m.b ∧ ((∀ n ∈ x0.1.weights Tryd.prog 45, n ≤ reachBytes) → m.l ≤ 140737488351232) := by
  obtain ⟨y0, y1, y2, y3, y4, y5, y6, y7, y8, n, hx, hl, g0, g1, g2, g3, g4, g5, g6, g7, g8⟩ := trod_sn9 (Tryd.underlying45) h
  obtain ⟨c0, c1, c2, c3, c4, c5, c6, c7, c8, rfl⟩ := lsn9 (hl.trans (by kernel_rfl))
  have z0 : Tryd.prog.cellsOf 3 = 1 := by kernel_rfl
  have z1 : Tryd.prog.cellsOf 24 = 1 := by kernel_rfl
  have z2 : Tryd.prog.cellsOf 4 = 1 := by kernel_rfl
  have z3 : Tryd.prog.cellsOf 43 = 1 := by kernel_rfl
  have z4 : Tryd.prog.cellsOf 42 = 1 := by kernel_rfl
  have z6 : Tryd.prog.cellsOf 41 = 1 := by kernel_rfl
  simp [z0, z1, z2, z3, z4, z6] at g0 g1 g2 g3 g4 g5 g6 g7 g8
  obtain ⟨v0, e0, _, w0⟩ := DataW.trod_int Tryd.underlying41 g0
  obtain ⟨v1, e1, _, w1⟩ := DataW.trod_int Tryd.underlying3 g1
  obtain ⟨v2, e2, _, w2⟩ := DataW.trod_int Tryd.underlying42 g2
  obtain ⟨v3, e3, _, w3⟩ := DataW.trod_int Tryd.underlying3 g3
  obtain ⟨v4, e4, _, w4⟩ := DataW.trod_int Tryd.underlying3 g4
  obtain ⟨v5, e5, _, w5⟩ := DataW.trod_int Tryd.underlying24 g5
  obtain ⟨v6, e6, _, w6⟩ := DataW.trod_int Tryd.underlying3 g6
  obtain ⟨v7, e7, _⟩ := DataW.trod_bool Tryd.underlying4 g7
  obtain ⟨a, l, c, bs, e8, R, hs⟩ := trod_bytesN g8
  obtain ⟨u5, rfl, h5⟩ := u32_sn w5
  simp at e0 e1 e2 e3 e4 e5 e6 e7
  refine ⟨⟨v0, v1, v2, v3, v4, u5, v6, v7, l, bs⟩, ⟨a, c⟩, by rw [e0, e1, e2, e3, e4, e5, e6, e7, e8]; rfl, ⟨i64_sn w0, i64_sn w1, i64_sn w2, i64_sn w3, i64_sn w4, h5, i64_sn w6⟩, R, fun hn => hs fun m hm => hn m ?_⟩
  rw [hx]
  have hu : DataW.weights (H := H) Tryd.prog 45 (.agg [y0.1, y1.1, y2.1, y3.1, y4.1, y5.1, y6.1, y7.1, y8.1]) = y0.1.weights Tryd.prog 41 ++ (y1.1.weights Tryd.prog 3 ++ (y2.1.weights Tryd.prog 42 ++ (y3.1.weights Tryd.prog 3 ++ (y4.1.weights Tryd.prog 3 ++ (y5.1.weights Tryd.prog 24 ++ (y6.1.weights Tryd.prog 3 ++ (y7.1.weights Tryd.prog 4 ++ (y8.1.weights Tryd.prog 43 ++ [])))))))) := by
    simp [DataW.weights, Tryd.underlying45, DataW.weightsEach]
  rw [hu]
  simp [hm]
theorem open_mvs {a : Option Addr} {len cap j : Nat} {d : DataW H} {p : List MemPlace} {ts : List TypeId} {ds : List (DataW H)} (h : DataW.Trod enc Tryd.prog w base spare held 27 (.slice a len cap) d p)
    (hz : (DataW.weightsEach Tryd.prog ts ds).all (· ≤ reachBytes) = true) (ht : ts[j]? = some 27) (hd : ds[j]? = some d) : len ≤ 9223372036854775807 ∧ ∃ M D, MvRow w a len M D ∧ ∀ i, i < len → (M i).Ok ∧ (M i).l ≤ 140737488355328 := by
  obtain ⟨fuel, hf⟩ := h
  have hw : ∀ n ∈ d.weights Tryd.prog 27, n ≤ reachBytes := fun n hn => by
    have := List.all_eq_true.1 hz _ (DataW.weights_mem_each ht hd n hn)
    simpa using this
  rcases open_slice Tryd.underlying27 hf with ⟨hcs, _⟩ | ⟨y, l, cp, m, n, Dd, Pl, hcs, _, hl, hm, hmm, hxx, hx⟩
  · simp [Value.cells] at hcs
    obtain ⟨_, rfl, _⟩ := hcs
    exact ⟨by omega, fun _ => ⟨0, 0, 0, 0, 0, 0, 0, false, 0, fun _ => 0⟩, fun _ => ⟨none, 0⟩, fun i hi => by omega, fun i hi => by omega⟩
  · simp [Value.cells] at hcs
    obtain ⟨rfl, rfl, rfl⟩ := hcs
    simp only [Prod.mk.injEq] at hxx
    rw [hxx.1] at hw
    refine ⟨by unfold maxLen at hm; omega, ?_⟩
    have hlm : len ≤ m := by rw [hmm]; split <;> omega
    have ce : Tryd.prog.cellsOf 45 = 9 := by kernel_rfl
    rw [ce] at hx
    have each : ∀ i, ∃ (z : Mv × Md), i < len → (∀ j u, (z.1.ls z.2)[j]? = some u → w.cell? ((y.add (i * 9)).add j) = some u) ∧ Row8 w z.2.a z.1.l z.2.c z.1.b ∧ z.1.Ok ∧ z.1.l ≤ 140737488355328 := by
      intro i
      by_cases hi : i < len
      · obtain ⟨cs, h1, h2⟩ := hx i (by omega)
        obtain ⟨r, x, rfl, ok, R, hs⟩ := trod_mvN h2
        obtain ⟨_, _, hcell⟩ := World.cells?_some h1
        have hl := hs fun q hq => hw q (by
          simp only [DataW.weights, Tryd.underlying27, List.mem_cons, List.mem_append]
          exact .inr (.inl (mem_weightsN hq (List.mem_map.2 ⟨i, List.mem_range.2 hi, rfl⟩))))
        refine ⟨(r, x), fun _ => ⟨fun j u hu => ?_, R, ok, by show r.l ≤ _; omega⟩⟩
        have hj : j < 9 := by
          have := (List.getElem?_eq_some_iff.1 hu).1
          exact this
        rw [hcell j hj]
        simpa using hu
      · exact ⟨(⟨0, 0, 0, 0, 0, 0, 0, false, 0, fun _ => 0⟩, ⟨none, 0⟩), fun q => absurd q hi⟩
    obtain ⟨G, hG⟩ := Classical.axiomOfChoice each
    refine ⟨fun i => (G i).1, fun i => (G i).2, fun i hi => ?_, fun i hi => (hG i hi).2.2⟩
    obtain ⟨hh, R, ok⟩ := hG i hi
    obtain ⟨b, off, spot⟩ := y
    have hc0 := (hG 0 (by omega)).1 0 _ rfl
    have hspot : spot = none := by simpa [Addr.add] using World.cell?_spot hc0
    subst hspot
    refine ⟨b, off, rfl, fun j u hu => ?_, R⟩
    have := hh j u hu
    rw [Go.WideShapes.add_plain, Go.WideShapes.add_plain] at this
    exact this
theorem trod_psN {fuel : Nat} {cs : List Value} {x0 : DataW H × List MemPlace} (h : DataW.trod enc Tryd.prog w base spare held fuel 50 cs = some x0) : ∃ p : Ps, p.Ok ∧ cs = p.cs := by
  obtain ⟨y0, y1, y2, y3, y4, n, _, hl, g0, g1, g2, g3, g4⟩ := trod_sn5 (Tryd.underlying50) h
  obtain ⟨c0, c1, c2, c3, c4, rfl⟩ := lsn5 (hl.trans (by kernel_rfl))
  have z1 : Tryd.prog.cellsOf 3 = 1 := by kernel_rfl
  have z3 : Tryd.prog.cellsOf 24 = 1 := by kernel_rfl
  simp [z1, z3] at g0 g1 g2 g3 g4
  obtain ⟨a0, e0, _, w0⟩ := DataW.trod_int Tryd.underlying24 g0
  obtain ⟨a1, e1, _, w1⟩ := DataW.trod_int Tryd.underlying3 g1
  obtain ⟨a2, e2, _, w2⟩ := DataW.trod_int Tryd.underlying3 g2
  obtain ⟨a3, e3, _, w3⟩ := DataW.trod_int Tryd.underlying3 g3
  obtain ⟨a4, e4, _, w4⟩ := DataW.trod_int Tryd.underlying24 g4
  obtain ⟨n0, rfl, h0⟩ := u32_sn w0
  obtain ⟨n4, rfl, h4⟩ := u32_sn w4
  simp at e0 e1 e2 e3 e4
  exact ⟨⟨n0, a1, a2, a3, n4⟩, ⟨h0, h4, i64_sn w1, i64_sn w2, i64_sn w3⟩, by rw [e0, e1, e2, e3, e4]; rfl⟩
theorem open_psN {fuel : Nat} {v : Value} {x0 : DataW H × List MemPlace} (h : DataW.trod enc Tryd.prog w base spare held fuel 23 [v] = some x0) : ∃ (a : Option Addr) (l c : Nat) (P : Nat → Ps), v = .slice a l c ∧ PsRow w a l P ∧ (∀ i, i < l → (P i).Ok) ∧ (a = none → l = 0 ∧ c = 0) ∧ l ≤ 9223372036854775807 := by
  rcases open_slice Tryd.underlying23 h with ⟨hcs, _⟩ | ⟨y, l, cp, m, n, D, Pl, hcs, _, hl, hm, hmm, hxx, hx⟩
  · simp at hcs
    exact ⟨none, 0, 0, fun _ => ⟨0, 0, 0, 0, 0⟩, hcs, fun i hi => by omega, fun i hi => by omega, fun _ => ⟨rfl, rfl⟩, by omega⟩
  · simp at hcs
    have hlm : l ≤ m := by rw [hmm]; split <;> omega
    have ce : Tryd.prog.cellsOf 50 = 5 := by kernel_rfl
    rw [ce] at hx
    have each : ∀ i, ∃ p : Ps, i < l → p.Ok ∧ ∀ j u, p.cs[j]? = some u → w.cell? ((y.add (i * 5)).add j) = some u := by
      intro i
      by_cases hi : i < l
      · obtain ⟨cs, h1, h2⟩ := hx i (by omega)
        obtain ⟨p, hp, rfl⟩ := trod_psN h2
        obtain ⟨_, _, hcell⟩ := World.cells?_some h1
        refine ⟨p, fun _ => ⟨hp, fun j u hu => ?_⟩⟩
        have hj : j < 5 := by
          have := (List.getElem?_eq_some_iff.1 hu).1
          exact this
        rw [hcell j hj]
        simpa using hu
      · exact ⟨⟨0, 0, 0, 0, 0⟩, fun q => absurd q hi⟩
    obtain ⟨P, hP⟩ := Classical.axiomOfChoice each
    refine ⟨some y, l, cp, P, hcs, fun i hi => ?_, fun i hi => (hP i hi).1, (fun q => by cases q), by unfold maxLen at hm; omega⟩
    obtain ⟨b, off, spot⟩ := y
    have hc0 := (hP 0 (by omega)).2 0 _ rfl
    have hspot : spot = none := by simpa [Addr.add] using World.cell?_spot hc0
    subst hspot
    refine ⟨b, off, rfl, fun j u hu => ?_⟩
    have := (hP i hi).2 j u hu
    rw [Go.WideShapes.add_plain, Go.WideShapes.add_plain] at this
    exact this
end
end Go.Proofs.YtnmnjcjfgbpkaaaDoor
