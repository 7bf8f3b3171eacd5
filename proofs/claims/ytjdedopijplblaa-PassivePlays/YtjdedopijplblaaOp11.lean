/- A list of calls of layer 11 that came in; a call that came in by value; how long their bytes may be. -/
import Derived.Test.YtjdedopijplblaaRowv
import Derived.WalkKit
import Derived.ProofKit
import Derived.SizedLaws
import Derived.Lib.SmallJoins
import Derived.Deep.Slices
import Derived.OpenShut
namespace Go.Proofs.Ytjdedopijplblaa
open Go.ChangeShapes Go.WideShapes Go.ChangeAt Go.RowKit Go.Joins Go.Deep

/-- A list of calls that came in. -/
def OpRow (w : World) (a : Option Addr) (len : Nat) : Prop := len ≤ 9223372036854775807 ∧ (0 < len → ∃ b off, a = some ⟨b, off, none⟩ ∧ b < w.heap.size ∧ ∀ i, i < len → ∃ (k p : Int) (o : Bool) (x : Option Addr) (l c : Nat) (bs : Nat → Nat),
  w.cell? ⟨b, off + i * 4, none⟩ = some (.int .i64 k) ∧ w.cell? ⟨b, off + i * 4 + 1, none⟩ = some (.int .i64 p) ∧ w.cell? ⟨b, off + i * 4 + 2, none⟩ = some (.bool o) ∧ w.cell? ⟨b, off + i * 4 + 3, none⟩ = some (.slice x l c) ∧ Row8 w x l c bs ∧ l ≤ 140737488351232)
theorem four {α : Type} {l : List α} (h : l.length = 4) : ∃ a b c d, l = [a, b, c, d] := by
  match l, h with
  | [a, b, c, d], _ => exact ⟨a, b, c, d, rfl⟩
theorem mem_weightsAll {H : Type} {P : Program} {e : TypeId} {n : Nat} {d : DataW H} (hn : n ∈ d.weights P e) : ∀ {l : List (DataW H)}, d ∈ l → n ∈ DataW.weightsAll P e l
  | [], h => by cases h
  | x :: r, h => by
    simp only [DataW.weightsAll, List.mem_append]
    rcases List.mem_cons.1 h with rfl | h
    · exact .inl hn
    · exact .inr (mem_weightsAll hn h)
section
variable {H : Type} {enc : TypeId × Value → H} {w : World} {base : Nat} {spare : TypeId → Bool} {held : Bool}
/-- Bytes that came in, and how long they may be. -/
theorem trod_bytes {fuel : Nat} {v : Value} {x : DataW H × List MemPlace} (h : DataW.trod enc Try.prog w base spare held fuel 29 [v] = some x) :
    ∃ (a : Option Addr) (l c : Nat) (bs : Nat → Nat), v = .slice a l c ∧ Row8 w a l c bs ∧ ((∀ n ∈ x.1.weights Try.prog 29, n ≤ reachBytes) → l ≤ 140737488351232) := by
  rcases open_ints Try.underlying29 Try.underlying5 (by kernel_rfl) h with ⟨hcs, _⟩ | ⟨y, l, c, zs, hcs, _, hl, hm, hz, hx, hcell, hwz⟩
  · simp at hcs
    exact ⟨none, 0, 0, _, hcs, BRow.row8 (zs := []) (.inl ⟨rfl, rfl, rfl, rfl⟩), fun _ => by omega⟩
  · simp at hcs
    have hll : l ≤ zs.length := by rw [hz]; split <;> omega
    refine ⟨some y, l, c, _, hcs, (⟨fun i hi => ?_, (fun hx => by cases hx), fun x hx i hi => ?_, hl⟩ : Row8 w (some y) l c (fun i => (zs.getD i 0).toNat)), fun hs => ?_⟩
    · have := bounds_u8 (hwz (zs.getD i 0) (by rw [List.getD_eq_getElem?_getD, List.getElem?_eq_getElem (by omega)]; exact List.getElem_mem _))
      omega
    · cases hx
      have := bounds_u8 (hwz (zs.getD i 0) (by rw [List.getD_eq_getElem?_getD, List.getElem?_eq_getElem (by omega)]; exact List.getElem_mem _))
      rw [hcell i (by omega), Int.toNat_of_nonneg this.1]
    · rw [hx] at hs
      have h1 := hs (((lits (H := H) .u8 (zs.take l)).length + (lits (H := H) .u8 (zs.drop l)).length) * Try.prog.bytesOf 5) (by simp only [DataW.weights, Try.underlying29]; exact List.mem_cons_self)
      rw [show Try.prog.bytesOf 5 = 1 by kernel_rfl] at h1
      simp [lits] at h1
      unfold reachBytes at h1
      omega
theorem trod_op {fuel : Nat} {cs : List Value} {x : DataW H × List MemPlace} (h : DataW.trod enc Try.prog w base spare held fuel 35 cs = some x) :
    ∃ (k p : Int) (o : Bool) (a : Option Addr) (l c : Nat) (bs : Nat → Nat), cs = [.int .i64 k, .int .i64 p, .bool o, .slice a l c] ∧ Row8 w a l c bs ∧ ((∀ n ∈ x.1.weights Try.prog 35, n ≤ reachBytes) → l ≤ 140737488351232) := by
  obtain ⟨y0, y1, y2, y3, n, hx, hl, g0, g1, g2, g3⟩ := trod_struct4 (Try.underlying35) h
  obtain ⟨c0, c1, c2, c3, rfl⟩ := four (hl.trans (by kernel_rfl))
  have z1 : Try.prog.cellsOf 3 = 1 := by kernel_rfl
  have z2 : Try.prog.cellsOf 4 = 1 := by kernel_rfl
  have z3 : Try.prog.cellsOf 29 = 1 := by kernel_rfl
  simp [z1, z2, z3] at g0 g1 g2 g3
  obtain ⟨k, e0, _⟩ := DataW.trod_int Try.underlying3 g0
  obtain ⟨p, e1, _⟩ := DataW.trod_int Try.underlying3 g1
  obtain ⟨o, e2, _⟩ := DataW.trod_bool Try.underlying4 g2
  obtain ⟨a, l, c, bs, e3, R, hs⟩ := trod_bytes g3
  simp at e0 e1 e2
  refine ⟨k, p, o, a, l, c, bs, by rw [e0, e1, e2, e3], R, fun hn => hs fun m hm => hn m ?_⟩
  rw [hx]
  have hu : DataW.weights (H := H) Try.prog 35 (.agg [y0.1, y1.1, y2.1, y3.1]) = y0.1.weights Try.prog 3 ++ (y1.1.weights Try.prog 3 ++ (y2.1.weights Try.prog 4 ++ (y3.1.weights Try.prog 29 ++ []))) := by
    simp [DataW.weights, Try.underlying35, DataW.weightsEach]
  rw [hu]
  simp [hm]
theorem ops_sized {a : Option Addr} {len cap j : Nat} {d : DataW H} {p : List MemPlace} {ts : List TypeId} {ds : List (DataW H)} (h : DataW.Trod enc Try.prog w base spare held 22 (.slice a len cap) d p)
    (hz : (DataW.weightsEach Try.prog ts ds).all (· ≤ reachBytes) = true) (ht : ts[j]? = some 22) (hd : ds[j]? = some d) : OpRow w a len := by
  obtain ⟨fuel, hf⟩ := h
  have hw : ∀ n ∈ d.weights Try.prog 22, n ≤ reachBytes := fun n hn => by
    have := List.all_eq_true.1 hz _ (DataW.weights_mem_each ht hd n hn)
    simpa using this
  rcases open_slice Try.underlying22 hf with ⟨hcs, _⟩ | ⟨y, l, cp, m, n, D, Pl, hcs, _, hl, hm, hmm, hxx, hx⟩
  · simp [Value.cells] at hcs
    obtain ⟨_, rfl, _⟩ := hcs
    exact ⟨by omega, fun h => by omega⟩
  · simp [Value.cells] at hcs
    obtain ⟨rfl, rfl, rfl⟩ := hcs
    simp only [Prod.mk.injEq] at hxx
    rw [hxx.1] at hw
    refine ⟨by unfold maxLen at hm; omega, fun hp => ?_⟩
    have hlm : len ≤ m := by rw [hmm]; split <;> omega
    have ce : Try.prog.cellsOf 35 = 4 := by kernel_rfl
    rw [ce] at hx
    have each : ∀ i, i < len → ∃ (k p : Int) (o : Bool) (x : Option Addr) (l c : Nat) (bs : Nat → Nat), (∀ j u, (#[.int .i64 k, .int .i64 p, .bool o, .slice x l c] : Array Value)[j]? = some u → w.cell? ((y.add (i * 4)).add j) = some u) ∧ Row8 w x l c bs ∧ l ≤ 140737488351232 := by
      intro i hi
      obtain ⟨cs, h1, h2⟩ := hx i (by omega)
      obtain ⟨k, p, o, x, l, c, bs, rfl, R, hs⟩ := trod_op h2
      obtain ⟨_, _, hcell⟩ := World.cells?_some h1
      refine ⟨k, p, o, x, l, c, bs, fun j u hu => ?_, R, hs fun q hq => hw q ?_⟩
      · have hj : j < 4 := by simpa using (Array.getElem?_eq_some_iff.1 hu).1
        rw [hcell j hj]
        simpa using hu
      · simp only [DataW.weights, Try.underlying22, List.mem_cons, List.mem_append]
        exact .inr (.inl (mem_weightsAll hq (List.mem_map.2 ⟨i, List.mem_range.2 hi, rfl⟩)))
    obtain ⟨b, off, spot⟩ := y
    obtain ⟨_, _, _, _, _, _, _, h0, _⟩ := each 0 hp
    have hc0 := h0 0 _ rfl
    have hspot : spot = none := by simpa [Addr.add] using World.cell?_spot hc0
    subst hspot
    refine ⟨b, off, rfl, ?_, fun i hi => ?_⟩
    · rw [Go.WideShapes.add_plain, Go.WideShapes.add_plain] at hc0
      exact World.block_lt_of_cell? w _ hc0
    · obtain ⟨k, p, o, x, l, c, bs, hh, R, hs⟩ := each i hi
      refine ⟨k, p, o, x, l, c, bs, ?_, ?_, ?_, ?_, R, hs⟩
      · have := hh 0 _ rfl; rw [Go.WideShapes.add_plain, Go.WideShapes.add_plain] at this; exact this
      · have := hh 1 _ rfl; rw [Go.WideShapes.add_plain, Go.WideShapes.add_plain] at this; exact this
      · have := hh 2 _ rfl; rw [Go.WideShapes.add_plain, Go.WideShapes.add_plain] at this; exact this
      · have := hh 3 _ rfl; rw [Go.WideShapes.add_plain, Go.WideShapes.add_plain] at this; exact this
/-- A call that came in by value: its bytes' length. -/
theorem op_sized {k p : Int} {o : Bool} {a : Option Addr} {len cap j : Nat} {d : DataW H} {q : List MemPlace} {ts : List TypeId} {ds : List (DataW H)} (h : DataW.Trod enc Try.prog w base spare held 35 (.agg #[.int .i64 k, .int .i64 p, .bool o, .slice a len cap]) d q)
    (hz : (DataW.weightsEach Try.prog ts ds).all (· ≤ reachBytes) = true) (ht : ts[j]? = some 35) (hd : ds[j]? = some d) : len ≤ 140737488351232 := by
  obtain ⟨fuel, hf⟩ := h
  obtain ⟨_, _, _, _, _, _, _, he, _, hs⟩ := trod_op hf
  simp [Value.cells] at he
  obtain ⟨_, _, _, _, rfl, _⟩ := he
  exact hs fun n hn => by
    have := List.all_eq_true.1 hz _ (DataW.weights_mem_each ht hd n hn)
    simpa using this
end

end Go.Proofs.Ytjdedopijplblaa
