/- Part 33 of the texts on which the proof rests: contracts of Go functions. -/
import Derived.Deep.RegionHeld3
import Derived.Test.YthlgahkoignnkaaPkG17
import Derived.Test.YthlgahkoignnkaaPkG31
namespace Go.Proofs.Ythlgahkoignnkaa
open Go.RowKit Go.Maps Go.Sort
set_option maxRecDepth 100000
set_option maxHeartbeats 2000000 in
theorem rule8_1 (p ge ec k i bi : Nat) (x : Ex) (fss fnn : Nat) (fon : Bool) (fcd : Int) (fn : Nat) (a : Option Addr) (cap : Nat) (w : World) (j0 : w.cell? ⟨p, 0, none⟩ = some (.slice (some ⟨ge, 0, none⟩) k ec)) (o0 : w.cell? ⟨ge, i, none⟩ = some (.slice (some ⟨bi, 0, none⟩) 2 2)) (hi : i < k) (h : ExW w bi 0 x) (gs sc ses : Nat) (fb : Nat → Nat) (j1 : w.cell? ⟨p, 1, none⟩ = some (.slice (some ⟨gs, 0, none⟩) k sc)) (s0 : w.cell? ⟨gs, i, none⟩ = some (.int .u32 (ses : Nat))) (hr : Row8 w a fn cap fb) (hn : fn ≤ 140737488351232) (hpb : p ≠ bi) (hgb : gs ≠ bi) :
    Calls Try.prog 21 #[.pointer (some ⟨p, 0, none⟩), .agg #[.int .i64 8, .int .i64 ((i : Nat) : Int), .int .i64 1, .int .u32 (fss : Nat), .int .u32 (fnn : Nat), .bool fon, .int .i64 fcd, .slice a fn cap]] w fun r w' => r = .returned (.int .i64 (x.orl ⟨8, ((i : Nat) : Int), 1, fss, fnn, fon, fcd, fn, fb⟩ false ses)) ∧ Hid (Tn w w' bi 0 (0 + 11) ∧ ExW w' bi 0 (x.shw ⟨8, ((i : Nat) : Int), 1, fss, fnn, fon, fcd, fn, fb⟩ false ses)) := by
  have b1 : Below w.heap.size w (w.alloc (.cells #[.int .i64 8, .int .i64 ((i : Nat) : Int), .int .i64 1, .int .u32 (fss : Nat), .int .u32 (fnn : Nat), .bool fon, .int .i64 fcd, .slice a fn cap] 43)) := belowG (Below.refl _ _) _
  have e0 := heap_alloc_new w (.cells #[.int .i64 8, .int .i64 ((i : Nat) : Int), .int .i64 1, .int .u32 (fss : Nat), .int .u32 (fnn : Nat), .bool fon, .int .i64 fcd, .slice a fn cap] 43)
  obtain ⟨w1, hw1⟩ : ∃ x : World, w.alloc (.cells #[.int .i64 8, .int .i64 ((i : Nat) : Int), .int .i64 1, .int .u32 (fss : Nat), .int .u32 (fnn : Nat), .bool fon, .int .i64 fcd, .slice a fn cap] 43) = x := ⟨_, rfl⟩
  obtain ⟨B, hB⟩ : ∃ x, w.heap.size = x := ⟨_, rfl⟩
  rw [hw1] at b1 e0
  rw [hB] at e0
  have T1 : Hid (Tn w w1 bi 0 (0 + 11)) := Tn.of_below 0 (0 + 11) b1 h.lt
  have HX : Hid (ExW w1 bi 0 x) := h.below b1
  have X1 := h.below b1
  have y0 := cell_belowJ j0 b1
  have y1 := cell_belowJ o0 b1
  have y2 := cell_belowJ j1 b1
  have y3 := cell_belowJ s0 b1
  have R1 := hr.below b1
  have hi1 : ((i : Nat) : Int) < ((k : Nat) : Int) := by omega
  have hi2 : ¬ ((i : Nat) : Int) < 0 := by omega
  have hi3 : ¬ ((k : Nat) : Int) ≤ ((i : Nat) : Int) := by omega
  have hne : ¬ bi = B := by have := h.lt; omega
  go_enter Try.func21, Try.ntmps21
  go_wp2_with fail
  clear hw1 hB b1 h j0 o0
  have z0 := cell_of_row w1 B 0 _ _ _ e0
  have z1 := cell_of_row w1 B 1 _ _ _ e0
  have z2 := cell_of_row w1 B 2 _ _ _ e0
  have z3 := cell_of_row w1 B 3 _ _ _ e0
  have z4 := cell_of_row w1 B 4 _ _ _ e0
  have z7 := cell_of_row w1 B 7 _ _ _ e0
  obtain ⟨x0, x1, x2, x3, x4, x5, x6, x7, x8, x9, x10, fz⟩ := X1
  go_quiet (fail)
  go_wp2_with fail
  go_quiet (fail)
  go_wp2_with fail
  have off4 : ∀ wy, Off [bi] w1 wy → wy.cell? ⟨p, 1, none⟩ = some (.slice (some ⟨gs, 0, none⟩) k sc) ∧ wy.cell? ⟨gs, i, none⟩ = some (.int .u32 (ses : Nat)) ∧ wy.cell? ⟨B, 0, none⟩ = some (.int .i64 8) ∧ wy.cell? ⟨B, 1, none⟩ = some (.int .i64 ((i : Nat) : Int)) ∧ wy.cell? ⟨B, 2, none⟩ = some (.int .i64 1) ∧ wy.cell? ⟨B, 3, none⟩ = some (.int .u32 (fss : Nat)) ∧ wy.cell? ⟨B, 4, none⟩ = some (.int .u32 (fnn : Nat)) ∧ wy.cell? ⟨B, 5, none⟩ = some (.bool fon) ∧ wy.cell? ⟨B, 6, none⟩ = some (.int .i64 fcd) ∧ wy.cell? ⟨B, 7, none⟩ = some (.slice a fn cap) := fun wy oy => by
    have cc : ∀ q j u, q ≠ bi → w1.cell? ⟨q, j, none⟩ = some u → wy.cell? ⟨q, j, none⟩ = some u := fun q j u hq hu => by
      have hl := World.block_lt_of_cell? w1 _ hu
      rw [World.cell?_of_block (a := ⟨q, j, none⟩) (oy.block q hl (by simpa using hq))]
      exact hu
    exact ⟨cc _ _ _ hpb y2, cc _ _ _ hgb y3, cc _ _ _ (Ne.symm hne) z0, cc _ _ _ (Ne.symm hne) z1, cc _ _ _ (Ne.symm hne) z2, cc _ _ _ (Ne.symm hne) z3, cc _ _ _ (Ne.symm hne) z4, cc _ _ _ (Ne.symm hne) (cell_of_row w1 B 5 _ _ _ e0), cc _ _ _ (Ne.symm hne) (cell_of_row w1 B 6 _ _ _ e0), cc _ _ _ (Ne.symm hne) z7⟩
  have hO : ∀ wx, Tn w1 wx bi 0 (0 + 11) → ExW wx bi 0 x → Row8 wx a fn cap fb → Calls Try.prog 37 #[.pointer (some ⟨bi, 0, none⟩), .agg #[.int .i64 8, .int .i64 ((i : Nat) : Int), .int .i64 1, .int .u32 (fss : Nat), .int .u32 (fnn : Nat), .bool fon, .int .i64 fcd, .slice a fn cap], .bool false, .int .u32 (ses : Nat)] wx fun r w' => ∃ v, r = .returned v ∧ (v = .int .i64 (x.orl ⟨8, ((i : Nat) : Int), 1, fss, fnn, fon, fcd, fn, fb⟩ false ses) ∧ Hid (Tn w1 w' bi 0 (0 + 11) ∧ ExW w' bi 0 (x.shw ⟨8, ((i : Nat) : Int), 1, fss, fnn, fon, fcd, fn, fb⟩ false ses))) := fun wx t hx hr => (rout bi 0 x 8 ((i : Nat) : Int) 1 fss fnn fon fcd fn fb a cap false ses wx hx hr hn).mono fun _ _ ⟨e, h⟩ => ⟨_, e, rfl, t.trans h.out.1, h.out.2⟩
  clear x0 x1 x2 x3 x4 x5 x6 x7 x8 x9 x10 fz z0 z1 z2 z3 z4 z7 y0 y1 e0
  go_region_held3 (fun wy => wy.cell? ⟨p, 1, none⟩ = some (.slice (some ⟨gs, 0, none⟩) k sc) ∧ wy.cell? ⟨gs, i, none⟩ = some (.int .u32 (ses : Nat)) ∧ wy.cell? ⟨B, 0, none⟩ = some (.int .i64 8) ∧ wy.cell? ⟨B, 1, none⟩ = some (.int .i64 ((i : Nat) : Int)) ∧ wy.cell? ⟨B, 2, none⟩ = some (.int .i64 1) ∧ wy.cell? ⟨B, 3, none⟩ = some (.int .u32 (fss : Nat)) ∧ wy.cell? ⟨B, 4, none⟩ = some (.int .u32 (fnn : Nat)) ∧ wy.cell? ⟨B, 5, none⟩ = some (.bool fon) ∧ wy.cell? ⟨B, 6, none⟩ = some (.int .i64 fcd) ∧ wy.cell? ⟨B, 7, none⟩ = some (.slice a fn cap)) (first | assumption | exact off4 _ (Tn.off (p := 0) (q := 0 + 11) (by repeat (first | with_reducible exact Tn.refl _ _ _ _ | with_reducible refine tn_set ?_ (by omega) (by omega) | with_reducible refine tn_drew ?_ | with_reducible refine tn_drewN ?_ _)))) (first
    | (refine step_callN 37 #[.tmp 253, .tmp 254, .tmp 255, .tmp 263] #[87, 43, 4, 23] rfl (by kernel_rfl) #[.pointer (some ⟨bi, 0, none⟩), .agg #[.int .i64 8, .int .i64 ((i : Nat) : Int), .int .i64 1, .int .u32 (fss : Nat), .int .u32 (fnn : Nat), .bool fon, .int .i64 fcd, .slice a fn cap], .bool false, .int .u32 (ses : Nat)] (by kernel_rfl) (hO _ (by repeat (first | with_reducible exact Tn.refl _ _ _ _ | with_reducible refine tn_set ?_ (by omega) (by omega) | with_reducible refine tn_drew ?_ | with_reducible refine tn_drewN ?_ _)) (by repeat (first | with_reducible exact HX.out | with_reducible refine ex_drew ?_ | with_reducible refine ex_drewN ?_ _)) (Row8.below R1 (by repeat (first | with_reducible assumption | with_reducible exact Below.refl _ _ | with_reducible refine belowN ?_ _ | with_reducible refine Below.drew ?_ | with_reducible refine belowG ?_ _)))) ?_; rintro v w4 ⟨rfl, h4⟩; have t4 := h4.out.1; have s4 := off4 _ t4.off))
  clear hO off4 s4
  go_wp2_with fail
  go_ret
  exact ⟨rfl, T1.out.trans t4, h4.out.2⟩
set_option maxHeartbeats 2000000 in
theorem rule8_2 (p ge ec k i bi : Nat) (x : Ex) (fss fnn : Nat) (fon : Bool) (fcd : Int) (fn : Nat) (a : Option Addr) (cap : Nat) (w : World) (j0 : w.cell? ⟨p, 0, none⟩ = some (.slice (some ⟨ge, 0, none⟩) k ec)) (o0 : w.cell? ⟨ge, i, none⟩ = some (.slice (some ⟨bi, 0, none⟩) 2 2)) (hi : i < k) (h : ExW w bi 11 x) (gs sc ses : Nat) (fb : Nat → Nat) (j1 : w.cell? ⟨p, 1, none⟩ = some (.slice (some ⟨gs, 0, none⟩) k sc)) (s0 : w.cell? ⟨gs, i, none⟩ = some (.int .u32 (ses : Nat))) (hr : Row8 w a fn cap fb) (hn : fn ≤ 140737488351232) (hpb : p ≠ bi) (hgb : gs ≠ bi) :
    Calls Try.prog 21 #[.pointer (some ⟨p, 0, none⟩), .agg #[.int .i64 8, .int .i64 ((i : Nat) : Int), .int .i64 2, .int .u32 (fss : Nat), .int .u32 (fnn : Nat), .bool fon, .int .i64 fcd, .slice a fn cap]] w fun r w' => r = .returned (.int .i64 (x.orl ⟨8, ((i : Nat) : Int), 2, fss, fnn, fon, fcd, fn, fb⟩ true ses)) ∧ Hid (Tn w w' bi 11 (11 + 11) ∧ ExW w' bi 11 (x.shw ⟨8, ((i : Nat) : Int), 2, fss, fnn, fon, fcd, fn, fb⟩ true ses)) := by
  have b1 : Below w.heap.size w (w.alloc (.cells #[.int .i64 8, .int .i64 ((i : Nat) : Int), .int .i64 2, .int .u32 (fss : Nat), .int .u32 (fnn : Nat), .bool fon, .int .i64 fcd, .slice a fn cap] 43)) := belowG (Below.refl _ _) _
  have e0 := heap_alloc_new w (.cells #[.int .i64 8, .int .i64 ((i : Nat) : Int), .int .i64 2, .int .u32 (fss : Nat), .int .u32 (fnn : Nat), .bool fon, .int .i64 fcd, .slice a fn cap] 43)
  obtain ⟨w1, hw1⟩ : ∃ x : World, w.alloc (.cells #[.int .i64 8, .int .i64 ((i : Nat) : Int), .int .i64 2, .int .u32 (fss : Nat), .int .u32 (fnn : Nat), .bool fon, .int .i64 fcd, .slice a fn cap] 43) = x := ⟨_, rfl⟩
  obtain ⟨B, hB⟩ : ∃ x, w.heap.size = x := ⟨_, rfl⟩
  rw [hw1] at b1 e0
  rw [hB] at e0
  have T1 : Hid (Tn w w1 bi 11 (11 + 11)) := Tn.of_below 11 (11 + 11) b1 h.lt
  have HX : Hid (ExW w1 bi 11 x) := h.below b1
  have X1 := h.below b1
  have y0 := cell_belowJ j0 b1
  have y1 := cell_belowJ o0 b1
  have y2 := cell_belowJ j1 b1
  have y3 := cell_belowJ s0 b1
  have R1 := hr.below b1
  have hi1 : ((i : Nat) : Int) < ((k : Nat) : Int) := by omega
  have hi2 : ¬ ((i : Nat) : Int) < 0 := by omega
  have hi3 : ¬ ((k : Nat) : Int) ≤ ((i : Nat) : Int) := by omega
  have hne : ¬ bi = B := by have := h.lt; omega
  go_enter Try.func21, Try.ntmps21
  go_wp2_with fail
  clear hw1 hB b1 h j0 o0
  have z0 := cell_of_row w1 B 0 _ _ _ e0
  have z1 := cell_of_row w1 B 1 _ _ _ e0
  have z2 := cell_of_row w1 B 2 _ _ _ e0
  have z3 := cell_of_row w1 B 3 _ _ _ e0
  have z4 := cell_of_row w1 B 4 _ _ _ e0
  have z7 := cell_of_row w1 B 7 _ _ _ e0
  obtain ⟨x0, x1, x2, x3, x4, x5, x6, x7, x8, x9, x10, fz⟩ := X1
  go_quiet (fail)
  go_wp2_with fail
  go_quiet (fail)
  go_wp2_with fail
  have off4 : ∀ wy, Off [bi] w1 wy → wy.cell? ⟨p, 1, none⟩ = some (.slice (some ⟨gs, 0, none⟩) k sc) ∧ wy.cell? ⟨gs, i, none⟩ = some (.int .u32 (ses : Nat)) ∧ wy.cell? ⟨B, 0, none⟩ = some (.int .i64 8) ∧ wy.cell? ⟨B, 1, none⟩ = some (.int .i64 ((i : Nat) : Int)) ∧ wy.cell? ⟨B, 2, none⟩ = some (.int .i64 2) ∧ wy.cell? ⟨B, 3, none⟩ = some (.int .u32 (fss : Nat)) ∧ wy.cell? ⟨B, 4, none⟩ = some (.int .u32 (fnn : Nat)) ∧ wy.cell? ⟨B, 5, none⟩ = some (.bool fon) ∧ wy.cell? ⟨B, 6, none⟩ = some (.int .i64 fcd) ∧ wy.cell? ⟨B, 7, none⟩ = some (.slice a fn cap) := fun wy oy => by
    have cc : ∀ q j u, q ≠ bi → w1.cell? ⟨q, j, none⟩ = some u → wy.cell? ⟨q, j, none⟩ = some u := fun q j u hq hu => by
      have hl := World.block_lt_of_cell? w1 _ hu
      rw [World.cell?_of_block (a := ⟨q, j, none⟩) (oy.block q hl (by simpa using hq))]
      exact hu
    exact ⟨cc _ _ _ hpb y2, cc _ _ _ hgb y3, cc _ _ _ (Ne.symm hne) z0, cc _ _ _ (Ne.symm hne) z1, cc _ _ _ (Ne.symm hne) z2, cc _ _ _ (Ne.symm hne) z3, cc _ _ _ (Ne.symm hne) z4, cc _ _ _ (Ne.symm hne) (cell_of_row w1 B 5 _ _ _ e0), cc _ _ _ (Ne.symm hne) (cell_of_row w1 B 6 _ _ _ e0), cc _ _ _ (Ne.symm hne) z7⟩
  have hO : ∀ wx, Tn w1 wx bi 11 (11 + 11) → ExW wx bi 11 x → Row8 wx a fn cap fb → Calls Try.prog 37 #[.pointer (some ⟨bi, 11, none⟩), .agg #[.int .i64 8, .int .i64 ((i : Nat) : Int), .int .i64 2, .int .u32 (fss : Nat), .int .u32 (fnn : Nat), .bool fon, .int .i64 fcd, .slice a fn cap], .bool true, .int .u32 (ses : Nat)] wx fun r w' => ∃ v, r = .returned v ∧ (v = .int .i64 (x.orl ⟨8, ((i : Nat) : Int), 2, fss, fnn, fon, fcd, fn, fb⟩ true ses) ∧ Hid (Tn w1 w' bi 11 (11 + 11) ∧ ExW w' bi 11 (x.shw ⟨8, ((i : Nat) : Int), 2, fss, fnn, fon, fcd, fn, fb⟩ true ses))) := fun wx t hx hr => (rout bi 11 x 8 ((i : Nat) : Int) 2 fss fnn fon fcd fn fb a cap true ses wx hx hr hn).mono fun _ _ ⟨e, h⟩ => ⟨_, e, rfl, t.trans h.out.1, h.out.2⟩
  clear x0 x1 x2 x3 x4 x5 x6 x7 x8 x9 x10 fz z0 z1 z2 z3 z4 z7 y0 y1 e0
  go_region_held3 (fun wy => wy.cell? ⟨p, 1, none⟩ = some (.slice (some ⟨gs, 0, none⟩) k sc) ∧ wy.cell? ⟨gs, i, none⟩ = some (.int .u32 (ses : Nat)) ∧ wy.cell? ⟨B, 0, none⟩ = some (.int .i64 8) ∧ wy.cell? ⟨B, 1, none⟩ = some (.int .i64 ((i : Nat) : Int)) ∧ wy.cell? ⟨B, 2, none⟩ = some (.int .i64 2) ∧ wy.cell? ⟨B, 3, none⟩ = some (.int .u32 (fss : Nat)) ∧ wy.cell? ⟨B, 4, none⟩ = some (.int .u32 (fnn : Nat)) ∧ wy.cell? ⟨B, 5, none⟩ = some (.bool fon) ∧ wy.cell? ⟨B, 6, none⟩ = some (.int .i64 fcd) ∧ wy.cell? ⟨B, 7, none⟩ = some (.slice a fn cap)) (first | assumption | exact off4 _ (Tn.off (p := 11) (q := 11 + 11) (by repeat (first | with_reducible exact Tn.refl _ _ _ _ | with_reducible refine tn_set ?_ (by omega) (by omega) | with_reducible refine tn_drew ?_ | with_reducible refine tn_drewN ?_ _)))) (first
    | (refine step_callN 37 #[.tmp 253, .tmp 254, .tmp 255, .tmp 263] #[87, 43, 4, 23] rfl (by kernel_rfl) #[.pointer (some ⟨bi, 11, none⟩), .agg #[.int .i64 8, .int .i64 ((i : Nat) : Int), .int .i64 2, .int .u32 (fss : Nat), .int .u32 (fnn : Nat), .bool fon, .int .i64 fcd, .slice a fn cap], .bool true, .int .u32 (ses : Nat)] (by kernel_rfl) (hO _ (by repeat (first | with_reducible exact Tn.refl _ _ _ _ | with_reducible refine tn_set ?_ (by omega) (by omega) | with_reducible refine tn_drew ?_ | with_reducible refine tn_drewN ?_ _)) (by repeat (first | with_reducible exact HX.out | with_reducible refine ex_drew ?_ | with_reducible refine ex_drewN ?_ _)) (Row8.below R1 (by repeat (first | with_reducible assumption | with_reducible exact Below.refl _ _ | with_reducible refine belowN ?_ _ | with_reducible refine Below.drew ?_ | with_reducible refine belowG ?_ _)))) ?_; rintro v w4 ⟨rfl, h4⟩; have t4 := h4.out.1; have s4 := off4 _ t4.off))
  clear hO off4 s4
  go_wp2_with fail
  go_ret
  exact ⟨rfl, T1.out.trans t4, h4.out.2⟩
end Go.Proofs.Ythlgahkoignnkaa
