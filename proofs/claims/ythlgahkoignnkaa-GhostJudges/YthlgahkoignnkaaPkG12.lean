/- Part 13 of the texts on which the proof rests: contracts of Go functions. -/
import Derived.Test.YthlgahkoignnkaaPkG01
import Derived.Test.YthlgahkoignnkaaPkG11
namespace Go.Proofs.Ythlgahkoignnkaa
open Go.ChangeShapes Go.WideShapes Go.ChangeAt Go.RowKit Go.Joins Go.Deep
theorem five {α : Type} {l : List α} (h : l.length = 5) : ∃ a b c d e, l = [a, b, c, d, e] := by
  match l, h with
  | [a, b, c, d, e], _ => exact ⟨a, b, c, d, e, rfl⟩
section
variable {H : Type} {enc : TypeId × Value → H} {P : Program} {w : World} {base : Nat} {spare : TypeId → Bool} {held : Bool}
theorem trod_struct5 {t : TypeId} {f0 f1 f2 f3 f4 : Field} {fuel : Nat} {cs : List Value} {x : DataW H × List MemPlace} (ht : P.underlying t = some (.struct #[f0, f1, f2, f3, f4])) (h : DataW.trod enc P w base spare held fuel t cs = some x) :
    ∃ y0 y1 y2 y3 y4 n, cs.length = P.cellsOf t ∧ DataW.trod enc P w base spare held n f0.type ((cs.drop f0.offset).take (P.cellsOf f0.type)) = some y0 ∧ DataW.trod enc P w base spare held n f1.type ((cs.drop f1.offset).take (P.cellsOf f1.type)) = some y1 ∧ DataW.trod enc P w base spare held n f2.type ((cs.drop f2.offset).take (P.cellsOf f2.type)) = some y2 ∧ DataW.trod enc P w base spare held n f3.type ((cs.drop f3.offset).take (P.cellsOf f3.type)) = some y3 ∧ DataW.trod enc P w base spare held n f4.type ((cs.drop f4.offset).take (P.cellsOf f4.type)) = some y4 := by
  obtain ⟨xs, n, _, rfl, hl, hlen, hf⟩ := DataW.trod_struct ht h
  obtain ⟨y0, y1, y2, y3, y4, rfl⟩ := five (l := xs) (by simpa using hlen)
  exact ⟨y0, y1, y2, y3, y4, n, hl, by simpa using hf 0 f0 rfl, by simpa using hf 1 f1 rfl, by simpa using hf 2 f2 rfl, by simpa using hf 3 f3 rfl, by simpa using hf 4 f4 rfl⟩
end
def PgOk (p : Pg) : Prop := p.c < 4294967296 ∧ p.n < 4294967296 ∧ (Lit.int .i64 p.o).wf = true ∧ (Lit.int .i64 p.i).wf = true ∧ (Lit.int .i64 p.t).wf = true
section
variable {H : Type} {enc : TypeId × Value → H} {w : World} {base : Nat} {spare : TypeId → Bool} {held : Bool}
theorem trod_par {fuel : Nat} {cs : List Value} {x0 : DataW H × List MemPlace} (h : DataW.trod enc Try.prog w base spare held fuel 70 cs = some x0) : ∃ p : Pg, PgOk p ∧ cs = [.int .u32 (p.c : Nat), .int .i64 p.o, .int .i64 p.i, .int .i64 p.t, .int .u32 (p.n : Nat)] := by
  obtain ⟨y0, y1, y2, y3, y4, n, hl, g0, g1, g2, g3, g4⟩ := trod_struct5 (Try.underlying70) h
  obtain ⟨c0, c1, c2, c3, c4, rfl⟩ := five (hl.trans (by kernel_rfl))
  have z1 : Try.prog.cellsOf 3 = 1 := by kernel_rfl
  have z3 : Try.prog.cellsOf 23 = 1 := by kernel_rfl
  simp [z1, z3] at g0 g1 g2 g3 g4
  obtain ⟨a0, e0, _, w0⟩ := DataW.trod_int Try.underlying23 g0
  obtain ⟨a1, e1, _, w1⟩ := DataW.trod_int Try.underlying3 g1
  obtain ⟨a2, e2, _, w2⟩ := DataW.trod_int Try.underlying3 g2
  obtain ⟨a3, e3, _, w3⟩ := DataW.trod_int Try.underlying3 g3
  obtain ⟨a4, e4, _, w4⟩ := DataW.trod_int Try.underlying23 g4
  obtain ⟨n0, rfl, h0⟩ := nat_u32 w0
  obtain ⟨n4, rfl, h4⟩ := nat_u32 w4
  simp at e0 e1 e2 e3 e4
  exact ⟨⟨n0, a1, a2, a3, n4⟩, ⟨h0, h4, w1, w2, w3⟩, by rw [e0, e1, e2, e3, e4]⟩
theorem trod_pars {fuel : Nat} {v : Value} {x0 : DataW H × List MemPlace} (h : DataW.trod enc Try.prog w base spare held fuel 22 [v] = some x0) : ∃ (a : Option Addr) (l c : Nat) (P : Nat → Pg), v = .slice a l c ∧ PRow w a l P ∧ (∀ i, PgOk (P i)) ∧ (a = none → l = 0 ∧ c = 0) ∧ l ≤ 9223372036854775807 := by
  have pz : PgOk ⟨0, 0, 0, 0, 0⟩ := ⟨by decide, by decide, by decide, by decide, by decide⟩
  rcases open_slice Try.underlying22 h with ⟨hcs, _⟩ | ⟨y, l, cp, m, n, D, Pl, hcs, _, hl, hm, hmm, hxx, hx⟩
  · simp at hcs
    exact ⟨none, 0, 0, fun _ => ⟨0, 0, 0, 0, 0⟩, hcs, fun i hi => by omega, fun _ => pz, fun _ => ⟨rfl, rfl⟩, by omega⟩
  · simp at hcs
    have hlm : l ≤ m := by rw [hmm]; split <;> omega
    have ce : Try.prog.cellsOf 70 = 5 := by kernel_rfl
    rw [ce] at hx
    have each : ∀ i, ∃ p : Pg, PgOk p ∧ (i < l → ∀ j u, (#[.int .u32 (p.c : Nat), .int .i64 p.o, .int .i64 p.i, .int .i64 p.t, .int .u32 (p.n : Nat)] : Array Value)[j]? = some u → w.cell? ((y.add (i * 5)).add j) = some u) := by
      intro i
      by_cases hi : i < l
      · obtain ⟨cs, h1, h2⟩ := hx i (by omega)
        obtain ⟨p, hp, rfl⟩ := trod_par h2
        obtain ⟨_, _, hcell⟩ := World.cells?_some h1
        refine ⟨p, hp, fun _ j u hu => ?_⟩
        have hj : j < 5 := by simpa using (Array.getElem?_eq_some_iff.1 hu).1
        rw [hcell j hj]
        simpa using hu
      · exact ⟨⟨0, 0, 0, 0, 0⟩, pz, fun q => absurd q hi⟩
    obtain ⟨P, hP⟩ := Classical.axiomOfChoice each
    refine ⟨some y, l, cp, P, hcs, fun i hi => ?_, fun i => (hP i).1, (fun q => by cases q), by unfold maxLen at hm; omega⟩
    obtain ⟨b, off, spot⟩ := y
    have hh := (hP i).2 hi
    have hc0 := (hP 0).2 (by omega) 0 _ rfl
    have hspot : spot = none := by simpa [Addr.add] using World.cell?_spot hc0
    subst hspot
    refine ⟨b, off, rfl, ?_, ?_, ?_, ?_, ?_⟩
    · have := hh 0 _ rfl; rw [Go.WideShapes.add_plain, Go.WideShapes.add_plain] at this; exact this
    · have := hh 1 _ rfl; rw [Go.WideShapes.add_plain, Go.WideShapes.add_plain] at this; exact this
    · have := hh 2 _ rfl; rw [Go.WideShapes.add_plain, Go.WideShapes.add_plain] at this; exact this
    · have := hh 3 _ rfl; rw [Go.WideShapes.add_plain, Go.WideShapes.add_plain] at this; exact this
    · have := hh 4 _ rfl; rw [Go.WideShapes.add_plain, Go.WideShapes.add_plain] at this; exact this
end
section
variable {H : Type} {enc : TypeId × Value → H} {w : World} {base : Nat} {spare : TypeId → Bool} {held : Bool}
theorem ops_len {a : Option Addr} {len cap j : Nat} {d : DataW H} {p : List MemPlace} {ts : List TypeId} {ds : List (DataW H)} (h : DataW.Trod enc Try.prog w base spare held 26 (.slice a len cap) d p)
    (hz : (DataW.weightsEach Try.prog ts ds).all (· ≤ reachBytes) = true) (ht : ts[j]? = some 26) (hd : ds[j]? = some d) : len * 72 ≤ 140737488351232 := by
  obtain ⟨fuel, hf⟩ := h
  have hw : ∀ n ∈ d.weights Try.prog 26, n ≤ reachBytes := fun n hn => by
    have := List.all_eq_true.1 hz _ (DataW.weights_mem_each ht hd n hn)
    simpa using this
  rcases open_slice Try.underlying26 hf with ⟨hcs, _⟩ | ⟨y, l, cp, m, n, D, Pl, hcs, _, hl, hm, hmm, hxx, hx⟩
  · simp [Value.cells] at hcs
    omega
  · simp [Value.cells] at hcs
    obtain ⟨rfl, rfl, rfl⟩ := hcs
    simp only [Prod.mk.injEq] at hxx
    rw [hxx.1] at hw
    have h1 := hw _ (by simp only [DataW.weights, Try.underlying26]; exact List.mem_cons_self)
    rw [show Try.prog.bytesOf 43 = 72 by kernel_rfl] at h1
    simp at h1
    unfold reachBytes at h1
    omega
end
end Go.Proofs.Ythlgahkoignnkaa
