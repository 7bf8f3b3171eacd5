/- Structs of many cells, loaded and stored at once. -/
import Derived.Test.YtiikebaehoobnaaDoorOl
import Derived.Deep.MidRow
import Derived.Deep.Upon
namespace Go.Proofs.YtiikebaehoobnaaDoor
set_option maxRecDepth 100000
open Go.RowKit Go.Maps
set_option maxRecDepth 100000
/-- These cells, laid from o on in block b. -/
def setA (w : World) (b o : Nat) (A : Array Value) : World := w.setCells b o A.toList
theorem wpList_loadA {P : Program} {ops : Array Oper} {rest : List Oper} {op : Oper} {a : Act} {w : World} {Q : Exit → Act → World → Prop} (hgd : op.guard = none) (ty : TypeId) (x : Operand) (ho : op.op = .load ty x)
    (b o : Nat) (hx : a.eval x = .pointer (some ⟨b, o, none⟩)) (A : Array Value) (d : TypeDesc) (hc : w.rangeAt b o A.toList)
    (hu : P.underlying ty = some d) (hd : d.isRow = true) (hi : (P.info? ty).map (·.size) = some A.size)
    (h : wpList P ops Q rest (a.put op.dst (.agg A)) w) : wpList P ops Q (op :: rest) a w :=
  wpList_load_mid hgd ty x ho b o hx A.toList d hc hu hd (by simpa using hi) (by simpa using h)
theorem wpList_storeA {P : Program} {ops : Array Oper} {rest : List Oper} {op : Oper} {a : Act} {w : World} {Q : Exit → Act → World → Prop} (hgd : op.guard = none) (ty : TypeId) (x y : Operand) (ho : op.op = .store ty x y)
    (b o : Nat) (A : Array Value) (hx : a.eval x = .pointer (some ⟨b, o, none⟩)) (hy : a.eval y = .agg A)
    (ht : w.there b o A.size) (hi : (P.info? ty).map (·.size) = some A.size) (h1 : A.all (·.oneCell') = true)
    (h : wpList P ops Q rest (a.put op.dst undef) (setA w b o A)) : wpList P ops Q (op :: rest) a w :=
  wpList_store_mid hgd ty x y ho b o A hx hy ht hi h1 h
theorem wpList_buildA {P : Program} {ops : Array Oper} {rest : List Oper} {op : Oper} {a : Act} {w w' : World} {Q : Exit → Act → World → Prop} (hgd : op.guard = none) (t : TypeId) (x : Operand) (ho : op.op = .buildSlice t 1 #[(0, x)]) (A v : Value) (hx : a.eval x = A)
    (hrun : (Instr.buildSlice t 1 #[(0, A)]).run P w = .ok v w') (h : wpList P ops Q rest (a.put op.dst v) w') : wpList P ops Q (op :: rest) a w :=
  wpList_plain hgd fun _ hK => by
    unfold Oper.wp execOp
    simp only [ho, Sem.run_bind, Sem.run_pure, Result.andThen_ok, List.map_toArray, List.map_cons, List.map_nil, hx, hrun]
    exact hK _ _ h
theorem storeA_run {P : Program} {w : World} {b o : Nat} {A : Array Value} (ht : w.there b o A.size) (h1 : A.all (·.oneCell') = true) : (storeCells ⟨b, o, none⟩ A.toList).run P w = .ok () (setA w b o A) := by
  have := run_storeCells_cells (P := P) b o A.toList 0 w (fun j hj => by simpa using (ht j (by simpa using hj)).1) (fun j hj => by simpa using (ht j (by simpa using hj)).2)
    (fun v hv => (Array.all_eq_true_iff_forall_mem.1 h1) v (by simpa using hv))
  simp only [Nat.add_zero] at this
  exact this
theorem rangeB {w w' : World} {b o : Nat} {cs : List Value} (h : w.rangeAt b o cs) (hb : Below w.heap.size w w') : w'.rangeAt b o cs := fun j v hv => cellB (h j v hv) hb
theorem range_part {w : World} {b o : Nat} {cs : List Value} (h : w.rangeAt b o cs) (k n : Nat) : w.rangeAt b (o + k) ((cs.drop k).take n) := fun j v hv => by
  have hj : j < n := by
    by_cases q : j < n
    · exact q
    · rw [List.getElem?_eq_none (by simp; omega)] at hv
      cases hv
  rw [List.getElem?_take_of_lt hj, List.getElem?_drop] at hv
  rw [Nat.add_assoc]
  exact h (k + j) v hv
theorem setA_tape (b : Nat) : ∀ (vs : List Value) (o : Nat) (w : World), (w.setCells b o vs).tape = w.tape ∧ (w.setCells b o vs).heap.size = w.heap.size
  | [], _, _ => ⟨rfl, rfl⟩
  | v :: vs, o, w => by
    have h := setA_tape b vs (o + 1) (w.setCell ⟨b, o, none⟩ v)
    have e : (w.setCell ⟨b, o, none⟩ v).heap.size = w.heap.size := by simp [World.setCell]
    rw [e] at h
    exact h
/-- A block that is new is written. -/
theorem setA_below {w wz : World} {g o : Nat} {A : Array Value} (h : Below w.heap.size w wz) (hg : w.heap.size ≤ g) : Below w.heap.size w (setA wz g o A) :=
  h.trans ⟨World.os_setCells _ _ _ _, (setA_tape _ _ _ _).1, World.output_setCells _ _ _ _, by rw [show (setA wz g o A).heap.size = wz.heap.size from (setA_tape _ _ _ _).2]; exact Nat.le_refl _, fun k hk => World.heap_setCells_other _ _ _ _ (by have := h.size; omega) (by omega)⟩
theorem there_new (w : World) (Z : Array Value) (T : TypeId) : (w.alloc (.cells Z T)).there w.heap.size 0 Z.size := fun j hj => by
  rw [Nat.zero_add]
  have hk := heap_alloc_new w (.cells Z T)
  refine ⟨?_, frozen_of_row _ _ j _ _ hk⟩
  rw [cell_of_row _ _ j _ _ _ hk, Array.getElem?_eq_getElem hj]
  rfl
theorem range_new (w : World) (Z : Array Value) (T : TypeId) : (w.alloc (.cells Z T)).rangeAt w.heap.size 0 Z.toList := fun j v hv => by
  rw [Nat.zero_add, cell_of_row _ _ j _ _ _ (heap_alloc_new w (.cells Z T)), ← hv, Array.getElem?_toList]
theorem range_setA {w : World} {b o : Nat} {A : Array Value} (ht : w.there b o A.size) : (setA w b o A).rangeAt b o A.toList := World.rangeAt_setCells_same w b o A.toList (by simpa using ht)
end Go.Proofs.YtiikebaehoobnaaDoor
