/- Part 25 of the texts on which the proof rests: contracts of Go functions. -/
import Derived.Test.YthlgahkoignnkaaPkG17
namespace Go.Proofs.Ythlgahkoignnkaa
open Go.RowKit Go.Maps Go.Sort
set_option maxRecDepth 100000
set_option maxHeartbeats 2000000 in
theorem rule5_1 (p ge ec k i bi : Nat) (x : Ex) (fss fnn : Nat) (fon : Bool) (fcd : Int) (fn : Nat) (a : Option Addr) (cap : Nat) (w : World) (j0 : w.cell? ⟨p, 0, none⟩ = some (.slice (some ⟨ge, 0, none⟩) k ec)) (o0 : w.cell? ⟨ge, i, none⟩ = some (.slice (some ⟨bi, 0, none⟩) 2 2)) (hi : i < k) (h : ExW w bi 0 x) (hnn : fnn < 4294967296) :
    Calls Try.prog 21 #[.pointer (some ⟨p, 0, none⟩), .agg #[.int .i64 5, .int .i64 ((i : Nat) : Int), .int .i64 1, .int .u32 (fss : Nat), .int .u32 (fnn : Nat), .bool fon, .int .i64 fcd, .slice a fn cap]] w fun r w' => r = .returned (.int .i64 0) ∧ Hid (Tn w w' bi 0 (0 + 11) ∧ ExW w' bi 0 { x with e := x.e.tck ((fnn : Nat) : Int) }) := by
  have b1 : Below w.heap.size w (w.alloc (.cells #[.int .i64 5, .int .i64 ((i : Nat) : Int), .int .i64 1, .int .u32 (fss : Nat), .int .u32 (fnn : Nat), .bool fon, .int .i64 fcd, .slice a fn cap] 43)) := belowG (Below.refl _ _) _
  have e0 := heap_alloc_new w (.cells #[.int .i64 5, .int .i64 ((i : Nat) : Int), .int .i64 1, .int .u32 (fss : Nat), .int .u32 (fnn : Nat), .bool fon, .int .i64 fcd, .slice a fn cap] 43)
  obtain ⟨w1, hw1⟩ : ∃ x : World, w.alloc (.cells #[.int .i64 5, .int .i64 ((i : Nat) : Int), .int .i64 1, .int .u32 (fss : Nat), .int .u32 (fnn : Nat), .bool fon, .int .i64 fcd, .slice a fn cap] 43) = x := ⟨_, rfl⟩
  obtain ⟨B, hB⟩ : ∃ x, w.heap.size = x := ⟨_, rfl⟩
  rw [hw1] at b1 e0
  rw [hB] at e0
  have T1 : Hid (Tn w w1 bi 0 (0 + 11)) := Tn.of_below 0 (0 + 11) b1 h.lt
  have HX : Hid (ExW w1 bi 0 x) := h.below b1
  have X1 := h.below b1
  have y0 := cell_belowJ j0 b1
  have y1 := cell_belowJ o0 b1
  have hi1 : ((i : Nat) : Int) < ((k : Nat) : Int) := by omega
  have hi2 : ¬ ((i : Nat) : Int) < 0 := by omega
  have hi3 : ¬ ((k : Nat) : Int) ≤ ((i : Nat) : Int) := by omega
  have hne : ¬ bi = B := by have := h.lt; omega
  have hw5 : IntKind.i64.wrap ((fnn : Nat) : Int) = ((fnn : Nat) : Int) := by rw [IntKind.wrap_i64]; omega
  go_enter Try.func21, Try.ntmps21
  go_wp2_with fail
  clear hw1 hB b1 h j0 o0
  have z0 := cell_of_row w1 B 0 _ _ _ e0
  have z1 := cell_of_row w1 B 1 _ _ _ e0
  have z2 := cell_of_row w1 B 2 _ _ _ e0
  have z3 := cell_of_row w1 B 3 _ _ _ e0
  have z4 := cell_of_row w1 B 4 _ _ _ e0
  have z7 := cell_of_row w1 B 7 _ _ _ e0
  obtain ⟨x0, x1, x2, x3, x4, x5, x6, x7, x8, x9, x10, fz⟩ := X1
  go_quiet (fail)
  go_wp2_with fail
  go_quiet (fail)
  go_wp2_with fail
  by_cases hlt : ((fnn : Nat) : Int) < wrap64 (x.e.w - x.e.tk)
  · have hlt2 : ¬ wrap64 (x.e.w - x.e.tk) ≤ ((fnn : Nat) : Int) := by omega
    have he : Hid (x.e.tck ((fnn : Nat) : Int) = { x.e with tk := wrap64 (x.e.tk + ((fnn : Nat) : Int)) }) := by show x.e.tck _ = _; unfold En.tck; rw [if_pos hlt]
    go_quiet (fail)
    go_wp2_with fail
    go_ret
    rw [he.out]
    first | exact ⟨rfl, (by repeat (first | with_reducible exact T1.out | with_reducible refine tn_set ?_ (by omega) (by omega) | with_reducible refine tn_drew ?_ | with_reducible refine tn_drewN ?_ _)), (ExW.s7 (by repeat (first | with_reducible exact HX.out | with_reducible refine ex_drew ?_ | with_reducible refine ex_drewN ?_ _)) _)⟩ | trace_state
  · have hlt2 : wrap64 (x.e.w - x.e.tk) ≤ ((fnn : Nat) : Int) := by omega
    have he : Hid (x.e.tck ((fnn : Nat) : Int) = { x.e with tk := x.e.w, fr := false }) := by show x.e.tck _ = _; unfold En.tck; rw [if_neg hlt]
    go_quiet (fail)
    go_wp2_with fail
    go_ret
    rw [he.out]
    first | exact ⟨rfl, (by repeat (first | with_reducible exact T1.out | with_reducible refine tn_set ?_ (by omega) (by omega) | with_reducible refine tn_drew ?_ | with_reducible refine tn_drewN ?_ _)), (ExW.s9 (ExW.s7 (by repeat (first | with_reducible exact HX.out | with_reducible refine ex_drew ?_ | with_reducible refine ex_drewN ?_ _)) _) false)⟩ | trace_state
set_option maxHeartbeats 2000000 in
theorem rule5_2 (p ge ec k i bi : Nat) (x : Ex) (fss fnn : Nat) (fon : Bool) (fcd : Int) (fn : Nat) (a : Option Addr) (cap : Nat) (w : World) (j0 : w.cell? ⟨p, 0, none⟩ = some (.slice (some ⟨ge, 0, none⟩) k ec)) (o0 : w.cell? ⟨ge, i, none⟩ = some (.slice (some ⟨bi, 0, none⟩) 2 2)) (hi : i < k) (h : ExW w bi 11 x) (hnn : fnn < 4294967296) :
    Calls Try.prog 21 #[.pointer (some ⟨p, 0, none⟩), .agg #[.int .i64 5, .int .i64 ((i : Nat) : Int), .int .i64 2, .int .u32 (fss : Nat), .int .u32 (fnn : Nat), .bool fon, .int .i64 fcd, .slice a fn cap]] w fun r w' => r = .returned (.int .i64 0) ∧ Hid (Tn w w' bi 11 (11 + 11) ∧ ExW w' bi 11 { x with e := x.e.tck ((fnn : Nat) : Int) }) := by
  have b1 : Below w.heap.size w (w.alloc (.cells #[.int .i64 5, .int .i64 ((i : Nat) : Int), .int .i64 2, .int .u32 (fss : Nat), .int .u32 (fnn : Nat), .bool fon, .int .i64 fcd, .slice a fn cap] 43)) := belowG (Below.refl _ _) _
  have e0 := heap_alloc_new w (.cells #[.int .i64 5, .int .i64 ((i : Nat) : Int), .int .i64 2, .int .u32 (fss : Nat), .int .u32 (fnn : Nat), .bool fon, .int .i64 fcd, .slice a fn cap] 43)
  obtain ⟨w1, hw1⟩ : ∃ x : World, w.alloc (.cells #[.int .i64 5, .int .i64 ((i : Nat) : Int), .int .i64 2, .int .u32 (fss : Nat), .int .u32 (fnn : Nat), .bool fon, .int .i64 fcd, .slice a fn cap] 43) = x := ⟨_, rfl⟩
  obtain ⟨B, hB⟩ : ∃ x, w.heap.size = x := ⟨_, rfl⟩
  rw [hw1] at b1 e0
  rw [hB] at e0
  have T1 : Hid (Tn w w1 bi 11 (11 + 11)) := Tn.of_below 11 (11 + 11) b1 h.lt
  have HX : Hid (ExW w1 bi 11 x) := h.below b1
  have X1 := h.below b1
  have y0 := cell_belowJ j0 b1
  have y1 := cell_belowJ o0 b1
  have hi1 : ((i : Nat) : Int) < ((k : Nat) : Int) := by omega
  have hi2 : ¬ ((i : Nat) : Int) < 0 := by omega
  have hi3 : ¬ ((k : Nat) : Int) ≤ ((i : Nat) : Int) := by omega
  have hne : ¬ bi = B := by have := h.lt; omega
  have hw5 : IntKind.i64.wrap ((fnn : Nat) : Int) = ((fnn : Nat) : Int) := by rw [IntKind.wrap_i64]; omega
  go_enter Try.func21, Try.ntmps21
  go_wp2_with fail
  clear hw1 hB b1 h j0 o0
  have z0 := cell_of_row w1 B 0 _ _ _ e0
  have z1 := cell_of_row w1 B 1 _ _ _ e0
  have z2 := cell_of_row w1 B 2 _ _ _ e0
  have z3 := cell_of_row w1 B 3 _ _ _ e0
  have z4 := cell_of_row w1 B 4 _ _ _ e0
  have z7 := cell_of_row w1 B 7 _ _ _ e0
  obtain ⟨x0, x1, x2, x3, x4, x5, x6, x7, x8, x9, x10, fz⟩ := X1
  go_quiet (fail)
  go_wp2_with fail
  go_quiet (fail)
  go_wp2_with fail
  by_cases hlt : ((fnn : Nat) : Int) < wrap64 (x.e.w - x.e.tk)
  · have hlt2 : ¬ wrap64 (x.e.w - x.e.tk) ≤ ((fnn : Nat) : Int) := by omega
    have he : Hid (x.e.tck ((fnn : Nat) : Int) = { x.e with tk := wrap64 (x.e.tk + ((fnn : Nat) : Int)) }) := by show x.e.tck _ = _; unfold En.tck; rw [if_pos hlt]
    go_quiet (fail)
    go_wp2_with fail
    go_ret
    rw [he.out]
    first | exact ⟨rfl, (by repeat (first | with_reducible exact T1.out | with_reducible refine tn_set ?_ (by omega) (by omega) | with_reducible refine tn_drew ?_ | with_reducible refine tn_drewN ?_ _)), (ExW.s7 (by repeat (first | with_reducible exact HX.out | with_reducible refine ex_drew ?_ | with_reducible refine ex_drewN ?_ _)) _)⟩ | trace_state
  · have hlt2 : wrap64 (x.e.w - x.e.tk) ≤ ((fnn : Nat) : Int) := by omega
    have he : Hid (x.e.tck ((fnn : Nat) : Int) = { x.e with tk := x.e.w, fr := false }) := by show x.e.tck _ = _; unfold En.tck; rw [if_neg hlt]
    go_quiet (fail)
    go_wp2_with fail
    go_ret
    rw [he.out]
    first | exact ⟨rfl, (by repeat (first | with_reducible exact T1.out | with_reducible refine tn_set ?_ (by omega) (by omega) | with_reducible refine tn_drew ?_ | with_reducible refine tn_drewN ?_ _)), (ExW.s9 (ExW.s7 (by repeat (first | with_reducible exact HX.out | with_reducible refine ex_drew ?_ | with_reducible refine ex_drewN ?_ _)) _) false)⟩ | trace_state
end Go.Proofs.Ythlgahkoignnkaa
