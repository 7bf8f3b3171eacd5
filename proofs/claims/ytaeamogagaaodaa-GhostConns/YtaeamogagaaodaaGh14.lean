/- Layer 18: New. -/
import Derived.Test.YtaeamogagaaodaaGn
import Derived.Deep.RegionLaw
import Derived.Maps.AppendAt
import Derived.Sort.WalkA
import Derived.Deep.MidRow
import Derived.Deep.Upon
namespace Go.Proofs.Ytaeamogagaaodaa
open Go.RowKit Go.Maps
set_option maxRecDepth 100000

/-- The sets of a net, a list in memory. -/
def PRow (w : World) (a : Option Addr) (len : Nat) (P : Nat → Pg) : Prop := ∀ i, i < len → ∃ q off, a = some ⟨q, off, none⟩ ∧ w.cell? ⟨q, off + i * 5, none⟩ = some (.int .u32 ((P i).c : Nat)) ∧ w.cell? ⟨q, off + i * 5 + 1, none⟩ = some (.int .i64 (P i).o) ∧ w.cell? ⟨q, off + i * 5 + 2, none⟩ = some (.int .i64 (P i).i) ∧ w.cell? ⟨q, off + i * 5 + 3, none⟩ = some (.int .i64 (P i).t) ∧ w.cell? ⟨q, off + i * 5 + 4, none⟩ = some (.int .u32 ((P i).n : Nat))
theorem PRow.below {w w' : World} {a : Option Addr} {len : Nat} {P : Nat → Pg} (h : PRow w a len P) (b : Below w.heap.size w w') : PRow w' a len P := fun i hi => by
  obtain ⟨q, off, e, c0, c1, c2, c3, c4⟩ := h i hi
  exact ⟨q, off, e, cell_belowJ c0 b, cell_belowJ c1 b, cell_belowJ c2 b, cell_belowJ c3 b, cell_belowJ c4 b⟩
/-- An end that has seen nothing. -/
def enN (t : Int) : En := ⟨t, false, 0, 0, ByteArray.mk #[], 0, 0, false, false⟩
def coN (h d : Int) : Co := ⟨enN h, enN d, 0⟩
def flC (k : Nat) (h d : Nat → Int) : List Value := (List.range k).flatMap fun i => coL (h i) (d i)
theorem flC_len (k : Nat) (h d : Nat → Int) : (flC k h d).length = k * 19 := by
  induction k with
  | zero => rfl
  | succ k ih =>
    unfold flC at *
    rw [List.range_succ, List.flatMap_append, List.length_append, ih]
    simp [coL_len]
    omega
theorem flC_succ (k : Nat) (h d : Nat → Int) : flC (k + 1) h d = flC k h d ++ coL (h k) (d k) := by
  unfold flC
  rw [List.range_succ, List.flatMap_append]
  simp
theorem flC_get (k : Nat) (h d : Nat → Int) (i j : Nat) (hi : i < k) (hj : j < 19) : (flC k h d)[i * 19 + j]? = (coL (h i) (d i))[j]? := by
  induction k with
  | zero => omega
  | succ k ih =>
    rw [flC_succ]
    by_cases e : i < k
    · rw [List.getElem?_append_left (by rw [flC_len]; omega), ih e]
    · obtain rfl : i = k := by omega
      rw [List.getElem?_append_right (by rw [flC_len]; omega), flC_len]
      congr 1
      omega
/-- One connection behind others of our own. -/
theorem app_con (B k g : Nat) (h d : Nat → Int) (v : Value) (w w0 : World) (hown : w.ownsRow B 67 19 v k (flC k h d)) (hg : w.heap[g]? = some (.cells (coL (h k) (d k)).toArray 67 (0, 0))) (hn : k < 1000000) (hB0 : B ≤ w0.heap.size) (hb : Below B w0 w) :
    ∃ v' w', (Builtin.append_ #[57, 57] 57 #[v, .slice (some ⟨g, 0, none⟩) 1 1]).run Try.prog w = .ok v' w' ∧ Hid (w'.ownsRow B 67 19 v' (k + 1) (flC (k + 1) h d) ∧ Below B w0 w' ∧ w.grownBy w' v.ownBlock) := by
  obtain ⟨i, hi, h0, h1, h2⟩ := info_parts info_con
  have hBw : B ≤ w.heap.size := Nat.le_trans hB0 hb.size
  obtain ⟨v', w', hrun, h3, h4, _⟩ := run_append_own w B 57 57 67 i _ 19 136 Try.underlying57 hi h0 h1 h2 rfl (by decide) v k (flC k h d) hown ⟨g, 0, none⟩ 1 1 (coL (h k) (d k)) rfl (by
    intro j u hu
    have := cell_of_row w g j _ _ _ hg
    have e : (Addr.add ⟨g, 0, none⟩ j) = ⟨g, j, none⟩ := by unfold Addr.add; simp; omega
    rw [e, this]
    simpa using hu) (coL_one _ _) (by unfold maxLen; omega) (by omega) hBw
  rw [flC_succ]
  exact ⟨v', w', hrun, h3, hb.grown h4 hBw (fun j hj => (hown.lt j hj).1), h4⟩
theorem step_appC {ops : Array Oper} {o : Oper} {a : Act} {w : World} {K : Act → World → Prop} {Q : Exit → Act → World → Prop} {E : Prop}
    (hg : o.guard = none) (s x : Operand) (hop : o.op = Op.call { callee := Callee.builtin Builtin.append, args := #[s, x], argTypes := #[57, 57] }) (hty : o.type = 57)
    (B k g : Nat) (h d : Nat → Int) (v : Value) (hs : a.eval s = v) (hown : w.ownsRow B 67 19 v k (flC k h d)) (hx : a.eval x = .slice (some ⟨g, 0, none⟩) 1 1)
    (hgc : w.heap[g]? = some (.cells (coL (h k) (d k)).toArray 67 (0, 0))) (hn : k < 1000000) (w0 : World) (hB0 : B ≤ w0.heap.size) (hb : Below B w0 w)
    (hK : ∀ v' w', Hid (w'.ownsRow B 67 19 v' (k + 1) (flC (k + 1) h d) ∧ w.grownBy w' v.ownBlock) → Below B w0 w' → K (a.put o.dst v') w') :
    if Region.wanted o (yielded ops a.tmps) = true then Oper.wp Try.prog o a w K Q else E := by
  have hw : Region.wanted o (yielded ops a.tmps) = true := by simp [Region.wanted, hg]
  rw [if_pos hw]
  obtain ⟨v', w', hrun, hO⟩ := app_con B k g h d v w w0 hown hgc hn hB0 hb
  unfold Oper.wp execOp
  simp only [hop, hty, resolve, invoke, builtin, Sem.run_bind, Sem.run_pure, Result.andThen_ok, List.map_toArray, List.map_cons, List.map_nil, hs, hx, hrun]
  exact hK v' w' ⟨hO.out.1, hO.out.2.2⟩ hO.out.2.1
/-- A net's judge at its beginning. -/
def ju0 (k : Nat) (h d : Nat → Int) : Ju := ⟨(List.range k).map fun i => coN (h i) (d i), fun _ _ _ => False, 0, 0, 0⟩
theorem ju0_get (k : Nat) (h d : Nat → Int) {i : Nat} {c : Co} (hc : (ju0 k h d).cs[i]? = some c) : i < k ∧ c = coN (h i) (d i) := by
  obtain ⟨hi, he⟩ := List.getElem?_eq_some_iff.1 hc
  simp [ju0] at hi he
  exact ⟨hi, he.symm⟩
/-- Out of the list made: the connections. -/
theorem con_of_own {w : World} {B k : Nat} {v : Value} {h d : Nat → Int} (o : w.ownsRow B 67 19 v k (flC k h d)) (hv : k = 0 → v = .slice none 0 0) : ∃ g cap, v = csV k g cap ∧ (0 < k → B ≤ g ∧ (∃ c, w.heap[g]? = some (.cells c 67 (0, 0)))) ∧ ∀ i, i < k → CoW w g (i * 19) (coN (h i) (d i)) := by
  rcases o.2 with ⟨rfl, hn⟩ | ⟨g, cap, cur, rfl, hg, hgg, h1, h2, h3, h4⟩
  · have : k = 0 := by have := hn; omega
    subst this
    exact ⟨0, 0, rfl, fun q => by omega, fun i hi => by omega⟩
  · by_cases k0 : k = 0
    · have := hv k0
      cases this
    · refine ⟨g, cap, by unfold csV; rw [if_neg k0], fun _ => ⟨hg, cur, hgg⟩, fun i hi => ?_⟩
      have cl : ∀ j, j < 19 → w.cell? ⟨g, i * 19 + j, none⟩ = (coL (h i) (d i))[j]? := fun j hj => by
        rw [cell_of_row w g (i * 19 + j) _ _ _ hgg, ← flC_get k h d i j hi hj, ← h4, List.getElem?_take_of_lt (by omega), Array.getElem?_toList]
      have fz : ∀ k, w.frozen? ⟨g, k, none⟩ = false := fun k => frozen_of_row w g k _ _ hgg
      exact ⟨⟨cl 0 (by omega), cl 1 (by omega), cl 2 (by omega), cl 3 (by omega), cl 4 (by omega), cl 5 (by omega), cl 6 (by omega), cl 7 (by omega), cl 8 (by omega), fz⟩, ⟨cl 9 (by omega), cl 10 (by omega), cl 11 (by omega), cl 12 (by omega), cl 13 (by omega), cl 14 (by omega), cl 15 (by omega), cl 16 (by omega), cl 17 (by omega), fz⟩, cl 18 (by omega)⟩
end Go.Proofs.Ytaeamogagaaodaa
