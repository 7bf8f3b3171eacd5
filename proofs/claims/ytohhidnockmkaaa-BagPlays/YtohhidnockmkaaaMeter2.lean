/- The meter: Clear, Raise, Peak. -/
import Derived.Test.YtohhidnockmkaaaMeter
namespace Go.Proofs.Ytohhidnockmkaaa
open Go.RowKit

theorem shape_of_row (w : World) (c : Nat) (cs : Array Value) (t : TypeId) (fr : Nat × Nat) (h : w.heap[c]? = some (.cells cs t fr)) : w.shape? c = some (t, cs.size) := by
  simp [World.shape?, h]
theorem cvi_none (w : World) : (convert 80 78 (.pointer none)).run Try.prog w = .ok (.pointer none) w := by kernel_rfl
theorem cvi_none' (w : World) : (convert 78 80 (.pointer none)).run Try.prog w = .ok (.pointer none) w := by kernel_rfl
theorem cvi_from (c : Nat) (v : Value) (w : World) (hc : w.heap[c]? = some (.cells #[v] 2 (0, 0))) : (convert 80 78 (.pointer (some ⟨c, 0, none⟩))).run Try.prog w = .ok (.pointer (some ⟨c, 0, none⟩)) w :=
  Lib.run_from_unsafe (u := 2) (j := (Try.prog.info? 2).get!) w ⟨c, 0, none⟩ (by kernel_rfl) (by kernel_rfl) (by kernel_rfl) (shape_of_row w c _ _ _ hc) (by kernel_rfl)
theorem cvi_to (c : Nat) (v : Value) (w : World) (hc : w.heap[c]? = some (.cells #[v] 2 (0, 0))) : (convert 78 80 (.pointer (some ⟨c, 0, none⟩))).run Try.prog w = .ok (.pointer (some ⟨c, 0, none⟩)) w :=
  run_convert_to_unsafe (t := 2) (by kernel_rfl) (by kernel_rfl) (by kernel_rfl) (cell_of_row w c 0 _ _ _ hc)
theorem Pk.from_ {M : Nat} {w : World} {p : Option Addr} {q : Option Int} (h : Pk M w p q) : (convert 80 78 (.pointer p)).run Try.prog w = .ok (.pointer p) w := by
  cases h with
  | none => exact cvi_none w
  | some c v h hc => exact cvi_from c _ w hc
theorem Pk.to_ {M : Nat} {w : World} {p : Option Addr} {q : Option Int} (h : Pk M w p q) : (convert 78 80 (.pointer p)).run Try.prog w = .ok (.pointer p) w := by
  cases h with
  | none => exact cvi_none' w
  | some c v h hc => exact cvi_to c _ w hc
theorem valueAt_none (w : World) : Calls Try.prog 44 #[.pointer none] w fun e w' => e = .returned (.tuple #[.int .i64 0, .bool false]) ∧ w' = w := by
  go_enter Try.func44, Try.ntmps44
  go_wp2_with fail
  go_ret2
  exact ⟨rfl, rfl⟩
theorem valueAt_some (a : Addr) (v : Int) (w : World) (hc : w.cell? a = some (.int .i64 v)) : Calls Try.prog 44 #[.pointer (some a)] w fun e w' => e = .returned (.tuple #[.int .i64 v, .bool true]) ∧ w' = w := by
  go_enter Try.func44, Try.ntmps44
  go_wp2_with fail
  go_ret2
  exact ⟨rfl, rfl⟩
theorem Pk.value {M : Nat} {w : World} {p : Option Addr} {q : Option Int} (h : Pk M w p q) :
    Calls Try.prog 44 #[.pointer p] w fun e w' => e = .returned (.tuple #[.int .i64 (q.getD 0), .bool q.isSome]) ∧ w' = w := by
  cases h with
  | none => exact valueAt_none w
  | some c v h hc => exact valueAt_some _ _ w (cell_of_row w c 0 _ _ _ hc)
theorem peak_any (M : Nat) (t : Int) (b : Nat) (p r : Option Addr) (q : Option Int) (f o : Int) (w : World) (h : Met w b t p f o r) (hp : Pk M w p q) :
    Calls Try.prog 32 #[.pointer (some ⟨b, 0, none⟩)] w fun e w' => e = .returned (.tuple #[.int .i64 (q.getD 0), .bool q.isSome]) ∧ w' = w := by
  have hl := ptri_load _ _ w h.c1 hp.from_
  have hv := hp.value
  generalize q.getD 0 = x at *
  generalize q.isSome = y at *
  go_enter Try.func32, Try.ntmps32
  go_wp2_with (first | (go_at_call 40; refine hl.mono ?_; rintro e w' ⟨rfl, rfl⟩) | (go_at_call 44; refine hv.mono ?_; rintro e w' ⟨rfl, rfl⟩))
  go_ret2
  exact ⟨rfl, rfl⟩
theorem peak_nil (w : World) : Calls Try.prog 32 #[.pointer none] w fun e w' => e = .returned (.tuple #[.int .i64 0, .bool false]) ∧ w' = w := by
  go_enter Try.func32, Try.ntmps32
  go_wp2_with fail
  go_ret2
  exact ⟨rfl, rfl⟩
theorem raise_nil (v : Int) (w : World) : Calls Try.prog 26 #[.pointer none, .int .i64 v] w fun e w' => e = .returned (.bool false) ∧ w' = w.alloc (.cells #[.int .i64 v] 2) := by
  go_enter Try.func26, Try.ntmps26
  go_wp2_with fail
  go_ret
  exact ⟨rfl, rfl⟩
theorem raise_first (t : Int) (b : Nat) (r : Option Addr) (f o v : Int) (w : World) (h : Met w b t none f o r) :
    Calls Try.prog 26 #[.pointer (some ⟨b, 0, none⟩), .int .i64 v] w fun e w' => e = .returned (.bool true) ∧ ∃ n, w' = ((w.alloc (.cells #[.int .i64 v] 2)).drewN n).setCell ⟨b, 1, none⟩ (.pointer (some ⟨w.heap.size, 0, none⟩)) := by
  have h1 : Met (w.alloc (.cells #[.int .i64 v] 2)) b t none f o r := h.off (Off.alloc [] w _) (by simp)
  have hl := ptri_load _ _ _ h1.c1 (cvi_none _)
  have hc : ∀ n, _ := fun n => ptri_cas ⟨b, 1, none⟩ none (some ⟨w.heap.size, 0, none⟩) ((w.alloc (.cells #[.int .i64 v] 2)).drewN n) h1.c1 (h1.fz 1) (cvi_none' _) (cvi_to w.heap.size (.int .i64 v) _ (heap_alloc_new w _))
  clear h1 h
  go_enter Try.func26, Try.ntmps26
  go_wp2_with fail
  refine wp_loop_once ?_
  go_wp2_with (go_at_call 40; refine hl.mono ?_; rintro e w' ⟨rfl, rfl⟩)
  go_quiet (fail)
  go_wp2_with (go_at_call 41; refine (hc nq).mono ?_; rintro e w' ⟨rfl, rfl⟩)
  go_ret
  exact ⟨rfl, _, rfl⟩
theorem raise_up (t : Int) (b c : Nat) (r : Option Addr) (f o x v : Int) (w : World) (h : Met w b t (some ⟨c, 0, none⟩) f o r) (hc : w.heap[c]? = some (.cells #[.int .i64 x] 2 (0, 0))) (hlt : x < v) :
    Calls Try.prog 26 #[.pointer (some ⟨b, 0, none⟩), .int .i64 v] w fun e w' => e = .returned (.bool true) ∧ ∃ n, w' = ((w.alloc (.cells #[.int .i64 v] 2)).drewN n).setCell ⟨b, 1, none⟩ (.pointer (some ⟨w.heap.size, 0, none⟩)) := by
  have h1 : Met (w.alloc (.cells #[.int .i64 v] 2)) b t (some ⟨c, 0, none⟩) f o r := h.off (Off.alloc [] w _) (by simp)
  have hc1 : (w.alloc (.cells #[.int .i64 v] 2)).heap[c]? = some (.cells #[.int .i64 x] 2 (0, 0)) := (heap_alloc_old w _ (Array.getElem?_eq_some_iff.1 hc).1).trans hc
  have hl := ptri_load _ _ _ h1.c1 (cvi_from c _ _ hc1)
  have hcs : ∀ n, _ := fun n => ptri_cas ⟨b, 1, none⟩ (some ⟨c, 0, none⟩) (some ⟨w.heap.size, 0, none⟩) ((w.alloc (.cells #[.int .i64 v] 2)).drewN n) h1.c1 (h1.fz 1) (cvi_to c _ _ hc1) (cvi_to w.heap.size (.int .i64 v) _ (heap_alloc_new w _))
  have hcell := cell_of_row _ c 0 _ _ _ hc1
  simp at hcell
  have hle : ¬ v ≤ x := by omega
  clear h1 h hc hc1
  go_enter Try.func26, Try.ntmps26
  go_wp2_with fail
  refine wp_loop_once ?_
  go_wp2_with (go_at_call 40; refine hl.mono ?_; rintro e w' ⟨rfl, rfl⟩)
  go_quiet (fail)
  go_wp2_with (go_at_call 41; refine (hcs nq).mono ?_; rintro e w' ⟨rfl, rfl⟩)
  go_ret
  exact ⟨rfl, _, rfl⟩
theorem raise_no (t : Int) (b c : Nat) (r : Option Addr) (f o x v : Int) (w : World) (h : Met w b t (some ⟨c, 0, none⟩) f o r) (hc : w.heap[c]? = some (.cells #[.int .i64 x] 2 (0, 0))) (hle : v ≤ x) :
    Calls Try.prog 26 #[.pointer (some ⟨b, 0, none⟩), .int .i64 v] w fun e w' => e = .returned (.bool false) ∧ ∃ n, w' = (w.alloc (.cells #[.int .i64 v] 2)).drewN n := by
  have h1 : Met (w.alloc (.cells #[.int .i64 v] 2)) b t (some ⟨c, 0, none⟩) f o r := h.off (Off.alloc [] w _) (by simp)
  have hc1 : (w.alloc (.cells #[.int .i64 v] 2)).heap[c]? = some (.cells #[.int .i64 x] 2 (0, 0)) := (heap_alloc_old w _ (Array.getElem?_eq_some_iff.1 hc).1).trans hc
  have hl := ptri_load _ _ _ h1.c1 (cvi_from c _ _ hc1)
  have hcell := cell_of_row _ c 0 _ _ _ hc1
  simp at hcell
  clear h1 h hc hc1
  go_enter Try.func26, Try.ntmps26
  go_wp2_with fail
  refine wp_loop_once ?_
  go_wp2_with (go_at_call 40; refine hl.mono ?_; rintro e w' ⟨rfl, rfl⟩)
  go_quiet (fail)
  go_wp2_with fail
  go_ret
  exact ⟨rfl, _, rfl⟩
/-- Raise, whatever the peak. -/
theorem raise_any (M : Nat) (t : Int) (b : Nat) (p r : Option Addr) (q : Option Int) (f o v : Int) (w : World) (h : Met w b t p f o r) (hp : Pk M w p q) (hM : M ≤ w.heap.size) :
    Calls Try.prog 26 #[.pointer (some ⟨b, 0, none⟩), .int .i64 v] w fun e w' => e = .returned (.bool (q.all (fun x => decide (x < v)))) ∧ Off [b] w w' ∧
      ∃ p', Met w' b t p' f o r ∧ Pk M w' p' (if q.all (fun x => decide (x < v)) then some v else q) := by
  have up : ∀ n, Off [b] w (((w.alloc (.cells #[.int .i64 v] 2)).drewN n).setCell ⟨b, 1, none⟩ (.pointer (some ⟨w.heap.size, 0, none⟩))) ∧
      ∃ p', Met (((w.alloc (.cells #[.int .i64 v] 2)).drewN n).setCell ⟨b, 1, none⟩ (.pointer (some ⟨w.heap.size, 0, none⟩))) b t p' f o r ∧
        Pk M (((w.alloc (.cells #[.int .i64 v] 2)).drewN n).setCell ⟨b, 1, none⟩ (.pointer (some ⟨w.heap.size, 0, none⟩))) p' (some v) := by
    intro n
    have h1 : Met ((w.alloc (.cells #[.int .i64 v] 2)).drewN n) b t p f o r := (h.off (Off.alloc [] w _) (by simp)).off (Off.drewN [] _ n) (by simp)
    refine ⟨((Off.alloc [b] w _).trans (Off.drewN [b] _ n)).trans (Off.setCell _ _ _ _), _, h1.s1 _, .some w.heap.size v hM ?_⟩
    rw [heap_setCell_other _ _ _ _ (by have := h.lt; simp; omega)]
    exact heap_alloc_new w _
  cases hp with
  | none =>
    refine (raise_first t b r f o v w h).mono ?_
    rintro e w' ⟨rfl, n, rfl⟩
    exact ⟨rfl, up n⟩
  | some c x hMc hc =>
    by_cases hlt : x < v
    · refine (raise_up t b c r f o x v w h hc hlt).mono ?_
      rintro e w' ⟨rfl, n, rfl⟩
      have e1 : Option.all (fun x => decide (x < v)) (some x) = true := by simp [hlt]
      rw [e1]
      exact ⟨rfl, up n⟩
    · refine (raise_no t b c r f o x v w h hc (by omega)).mono ?_
      rintro e w' ⟨rfl, n, rfl⟩
      have e1 : Option.all (fun x => decide (x < v)) (some x) = false := by simp [hlt]
      rw [e1]
      refine ⟨rfl, (Off.alloc [b] w _).trans (Off.drewN [b] _ n), _, (h.off (Off.alloc [] w _) (by simp)).off (Off.drewN [] _ n) (by simp), ?_⟩
      exact .some c x hMc ((heap_alloc_old w _ (Array.getElem?_eq_some_iff.1 hc).1).trans hc)

end Go.Proofs.Ytohhidnockmkaaa
