/- Part 26 of the texts on which the proof rests: contracts of Go functions. -/
import Derived.Test.YtpbcgpdfjplidaaGreatPkN24
namespace Go.Proofs.YtpbcgpdfjplidaaGreat
set_option maxRecDepth 100000
open Go.RowKit
set_option maxHeartbeats 6400000 in
theorem hnext_any (d : Nat) (P : Pm) (U : List Nat) (s : Sh) (w : World) (h : HV w d P U s) (hsn : s.st = 4 ∨ s.st = 5 → s.sn + 1 < 4294967296) (h5 : 1 ≤ s.st ∧ s.st ≤ 5) (hL : s.L.length < 800000) :
    Calls Tryz.prog 80 #[.pointer (some ⟨d, 0, none⟩)] w fun e w' => ∃ k ss num fl a len cap bs, e = .returned (.agg #[.int .i64 ((k : Nat) : Int), .int .u32 0, .int .u32 ((ss : Nat) : Int), .int .u32 ((num : Nat) : Int), .int .i64 ((fl : Nat) : Int), .slice a len cap]) ∧ Hid (Un U w w' d P (hnext P s).1 (hnext P s).2 k ss num fl a len cap bs) := by
  have hb0 : Below w.heap.size w (w.alloc (.cells zU 175)) := (Below.refl _ _).alloc (Nat.le_refl _) _
  have hx0 := heap_alloc_new w (.cells zU 175)
  have hs0 : w.heap.size < (w.alloc (.cells zU 175)).heap.size := by simp
  have hU : w.heap.size ∉ U := fun hm => by have := HV.ult h _ hm; omega
  have hv0 := HV.below h hb0
  obtain ⟨B, x0⟩ := id hv0
  have hdn : ¬ d = w.heap.size := fun e => hU (by rw [← e]; exact x0.kd.2)
  have hdn' : ¬ w.heap.size = d := fun e => hdn e.symm
  have c8 := x0.c8
  have c9 := x0.c9
  by_cases h123 : s.st = 1 ∨ s.st = 2
  · have hS := hsig_any d P U s _ hv0
    have xd := x0.newd (Off.drew [] _)
    have hSd := hsig_any d P U s _ ⟨B, xd⟩
    have H0 : Hid (_) := And.intro hb0 (And.intro hx0 (And.intro hs0 (And.intro hU hv0)))
    have HS : (w.alloc (.cells zU 175)).drew.cell? ⟨d, 9, none⟩ = some (.int .u32 (s.ss : Nat)) := xd.c9
    have HD : Hid (_) := x0.dlt
    clear h hb0 hx0 hs0 hU hv0 x0 xd hL hsn h5
    unfold zU at *
    unfold hnext
    rcases h123 with h1 | h1
    · rw [if_pos h1]
      rw [h1] at c8
      clear h1 hSd HS
      go_enter Tryz.func80, Tryz.ntmps80
      go_wp2_with fail
      refine hS.mono ?_
      rintro e w2 ⟨g, rfl, h2⟩
      obtain ⟨r2, hg, b2⟩ := h2.out
      obtain ⟨hb0, hx0, hs0, hU, hv0⟩ := H0.out
      have e2 := (b2.block w.heap.size hs0).trans hx0
      obtain ⟨⟨q0, q1, q2, q3, q4, q5⟩, fz⟩ := hsixC e2
      have f0 := fz 0
      have f1 := fz 1
      have f2 := fz 2
      have f3 := fz 3
      have f4 := fz 4
      have f5 := fz 5
      have H2 : Hid (_) := And.intro r2 (And.intro hg (And.intro b2 (And.intro hb0 (And.intro hs0 (And.intro hU hv0)))))
      clear hS h2 r2 hg b2 hb0 hx0 hs0 hU hv0 e2 fz H0 c8 c9
      go_wp2_with fail
      refine bodyPost_ret (v := .agg #[.int .i64 1, .int .u32 0, .int .u32 0, .int .u32 0, .int .i64 0, .slice (some ⟨g, 0, none⟩) 4 4]) (by simp [results, Tryz.results80, go_sem, q0, q1, q2, q3, q4, q5]) rfl ?_
      obtain ⟨r2, hg, b2, hb0, hs0, hU, hv0⟩ := H2.out
      have oo := hsixO w.heap.size w2 (.int .i64 1) (.int .u32 0) (.int .u32 0) (.int .u32 0) (.int .i64 0) (.slice (some ⟨g, 0, none⟩) 4 4)
      exact ⟨1, 0, 0, 0, some ⟨g, 0, none⟩, 4, 4, dsg P, rfl, ⟨U, ((Gr.below hb0).trans (Gr.below b2)).new_ oo (Nat.le_refl _), HV.off (HV.below hv0 b2) oo (fun k hk hm => by simp at hm; subst hm; exact hU hk), fun y hy => by cases hy; have := HD.out; exact ⟨by show g ≠ d; omega, .inr (by show w.heap.size ≤ g; omega), Nat.lt_of_lt_of_le hg.2 oo.size⟩⟩, rfl, r2.off oo (fun y hy => by cases hy; simp; omega)⟩
    · rw [if_neg (by omega), if_pos h1]
      rw [h1] at c8
      clear h1 hS c9
      go_enter Tryz.func80, Tryz.ntmps80
      go_wp2_with fail
      refine wp_region_held_drew (S := fun w' => w'.cell? ⟨d, 9, none⟩ = some (Value.int .u32 (s.ss : Nat))) (by kernel_rfl) HS (fun _ => ?_)
      refine held_at (a' := { tmps := #[Value.pointer (some ⟨d, 0, none⟩), undef, Value.pointer (some ⟨w.heap.size, 0, none⟩), Value.pointer (some ⟨d, 0, none⟩), Value.pointer (some ⟨d, 0, none⟩), Value.pointer (some ⟨d, 6, none⟩), Value.pointer (some ⟨d, 8, none⟩), Value.int .i64 ((2 : Nat) : Int), Value.bool false, Value.bool false, undef, undef, undef, Value.bool true, Value.bool true, undef, undef, undef, undef, undef, undef, undef, undef, undef, undef, undef, undef, undef, undef, undef, undef, undef, undef], defers := [] }) (l' := #[false, false, false, false, false, false, false, false, false]) (by kernel_rfl) (by kernel_rfl) ?_
      refine wpAnyH_take (i := 0) (v := Value.pointer (some ⟨d, 0, none⟩)) rfl (by kernel_rfl) (by kernel_rfl) (by kernel_rfl) (fun _ _ _ h => h) (Or.inl ⟨by kernel_rfl, fun w hSw => by go_simp⟩) (by assumption) ?_
      refine wpAnyH_take (i := 1) (v := Value.pointer (some ⟨d, 0, none⟩)) rfl (by kernel_rfl) (by kernel_rfl) (by kernel_rfl) (fun _ _ _ h => h) (Or.inl ⟨by kernel_rfl, fun w hSw => by go_simp⟩) (by assumption) ?_
      refine wpAnyH_take (i := 2) (v := Value.pointer (some ⟨d, 6, none⟩)) rfl (by kernel_rfl) (by kernel_rfl) (by kernel_rfl) (fun _ _ _ h => h) (Or.inl ⟨by kernel_rfl, fun w hSw => by go_simp⟩) (by assumption) ?_
      refine wpAnyH_take (i := 3) (v := Value.pointer (some ⟨d, 9, none⟩)) rfl (by kernel_rfl) (by kernel_rfl) (by kernel_rfl) (fun _ _ _ h => h) (Or.inl ⟨by kernel_rfl, fun w hSw => by go_simp⟩) (by assumption) ?_
      refine wpAnyH_take (i := 4) (v := Value.int .u32 (s.ss : Nat)) rfl (by kernel_rfl) (by kernel_rfl) (by kernel_rfl) (fun _ _ _ h => h) (Or.inl ⟨by kernel_rfl, fun w hSw => by go_simp⟩) (by assumption) ?_
      refine wpAnyH_take (i := 5) (v := Value.pointer (some ⟨d, 0, none⟩)) rfl (by kernel_rfl) (by kernel_rfl) (by kernel_rfl) (fun _ _ _ h => h) (Or.inl ⟨by kernel_rfl, fun w hSw => by go_simp⟩) (by assumption) ?_
      refine held_at (a' := { tmps := #[Value.pointer (some ⟨d, 0, none⟩), undef, Value.pointer (some ⟨w.heap.size, 0, none⟩), Value.pointer (some ⟨d, 0, none⟩), Value.pointer (some ⟨d, 0, none⟩), Value.pointer (some ⟨d, 6, none⟩), Value.pointer (some ⟨d, 8, none⟩), Value.int .i64 ((2 : Nat) : Int), Value.bool false, Value.bool false, undef, undef, undef, Value.bool true, Value.bool true, Value.pointer (some ⟨d, 0, none⟩), Value.pointer (some ⟨d, 0, none⟩), Value.pointer (some ⟨d, 6, none⟩), Value.pointer (some ⟨d, 9, none⟩), Value.int .u32 (s.ss : Nat), Value.pointer (some ⟨d, 0, none⟩), undef, undef, undef, undef, undef, undef, undef, undef, undef, undef, undef, undef], defers := [] }) (l' := #[true, true, true, true, true, true, false, false, false]) (by kernel_rfl) (by kernel_rfl) ?_
      refine held_call (i := 6) 104 #[Value.pointer (some ⟨d, 0, none⟩)] (by kernel_rfl) rfl (by kernel_rfl) (by go_simp) ?_
      refine (hSd).mono ?_
      rintro e w2 ⟨g, rfl, h2⟩
      have HT : w2.cell? ⟨d, 9, none⟩ = some (Value.int .u32 (s.ss : Nat)) := (h2.out.2.2.cell (p := ⟨d, 9, none⟩) HD.out).trans HS
      have e2 := (h2.out.2.2.block w.heap.size H0.out.2.2.1).trans H0.out.2.1
      obtain ⟨⟨q0, q1, q2, q3, q4, q5⟩, fz⟩ := hsixC e2
      have f0 := fz 0
      have f1 := fz 1
      have f2 := fz 2
      have f3 := fz 3
      have f4 := fz 4
      have f5 := fz 5
      clear hSd fz
      refine ⟨_, rfl, HT, ?_⟩
      refine held_at (a' := { tmps := #[Value.pointer (some ⟨d, 0, none⟩), undef, Value.pointer (some ⟨w.heap.size, 0, none⟩), Value.pointer (some ⟨d, 0, none⟩), Value.pointer (some ⟨d, 0, none⟩), Value.pointer (some ⟨d, 6, none⟩), Value.pointer (some ⟨d, 8, none⟩), Value.int .i64 ((2 : Nat) : Int), Value.bool false, Value.bool false, undef, undef, undef, Value.bool true, Value.bool true, Value.pointer (some ⟨d, 0, none⟩), Value.pointer (some ⟨d, 0, none⟩), Value.pointer (some ⟨d, 6, none⟩), Value.pointer (some ⟨d, 9, none⟩), Value.int .u32 (s.ss : Nat), Value.pointer (some ⟨d, 0, none⟩), Value.slice (some ⟨g, 0, none⟩) 4 4, undef, undef, undef, undef, undef, undef, undef, undef, undef, undef, undef], defers := [] }) (l' := #[true, true, true, true, true, true, true, false, false]) (by kernel_rfl) (by kernel_rfl) ?_
      refine wpAnyH_take (i := 7) (v := Value.agg #[Value.int .i64 2, Value.int .u32 0, Value.int .u32 (s.ss : Nat), Value.int .u32 0, Value.int .i64 0, Value.slice (some ⟨g, 0, none⟩) 4 4]) rfl (by kernel_rfl) (by kernel_rfl) (by kernel_rfl) (fun _ _ _ h => h) (Or.inl ⟨by kernel_rfl, fun w hSw => by go_simp⟩) (by assumption) ?_
      refine held_at (a' := { tmps := #[Value.pointer (some ⟨d, 0, none⟩), undef, Value.pointer (some ⟨w.heap.size, 0, none⟩), Value.pointer (some ⟨d, 0, none⟩), Value.pointer (some ⟨d, 0, none⟩), Value.pointer (some ⟨d, 6, none⟩), Value.pointer (some ⟨d, 8, none⟩), Value.int .i64 ((2 : Nat) : Int), Value.bool false, Value.bool false, undef, undef, undef, Value.bool true, Value.bool true, Value.pointer (some ⟨d, 0, none⟩), Value.pointer (some ⟨d, 0, none⟩), Value.pointer (some ⟨d, 6, none⟩), Value.pointer (some ⟨d, 9, none⟩), Value.int .u32 (s.ss : Nat), Value.pointer (some ⟨d, 0, none⟩), Value.slice (some ⟨g, 0, none⟩) 4 4, Value.agg #[Value.int .i64 2, Value.int .u32 0, Value.int .u32 (s.ss : Nat), Value.int .u32 0, Value.int .i64 0, Value.slice (some ⟨g, 0, none⟩) 4 4], undef, undef, undef, undef, undef, undef, undef, undef, undef, undef], defers := [] }) (l' := #[true, true, true, true, true, true, true, true, false]) (by kernel_rfl) (by kernel_rfl) ?_
      refine held_skip (i := 8) (((((((w2.setCell ⟨w.heap.size, 0, none⟩ (Value.int .i64 2)).setCell ⟨w.heap.size, 1, none⟩ (Value.int .u32 0)).setCell ⟨w.heap.size, 2, none⟩ (Value.int .u32 (s.ss : Nat))).setCell ⟨w.heap.size, 3, none⟩ (Value.int .u32 0)).setCell ⟨w.heap.size, 4, none⟩ (Value.int .i64 0)).setCell ⟨w.heap.size, 5, none⟩ (Value.slice (some ⟨g, 0, none⟩) 4 4))) (by kernel_rfl) rfl (by kernel_rfl) (by go_simp) (hsix_cell HT hdn _ _ _ _ _ _) ?_
      refine held_at (a' := { tmps := #[Value.pointer (some ⟨d, 0, none⟩), undef, Value.pointer (some ⟨w.heap.size, 0, none⟩), Value.pointer (some ⟨d, 0, none⟩), Value.pointer (some ⟨d, 0, none⟩), Value.pointer (some ⟨d, 6, none⟩), Value.pointer (some ⟨d, 8, none⟩), Value.int .i64 ((2 : Nat) : Int), Value.bool false, Value.bool false, undef, undef, undef, Value.bool true, Value.bool true, Value.pointer (some ⟨d, 0, none⟩), Value.pointer (some ⟨d, 0, none⟩), Value.pointer (some ⟨d, 6, none⟩), Value.pointer (some ⟨d, 9, none⟩), Value.int .u32 (s.ss : Nat), Value.pointer (some ⟨d, 0, none⟩), Value.slice (some ⟨g, 0, none⟩) 4 4, Value.agg #[Value.int .i64 2, Value.int .u32 0, Value.int .u32 (s.ss : Nat), Value.int .u32 0, Value.int .i64 0, Value.slice (some ⟨g, 0, none⟩) 4 4], undef, undef, undef, undef, undef, undef, undef, undef, undef, undef], defers := [] }) (l' := #[true, true, true, true, true, true, true, true, true]) (by kernel_rfl) (by kernel_rfl) ?_
      refine wpAnyH_done (by kernel_rfl) ?_ _
      have e9 := hsixR (Value.int .i64 2) (Value.int .u32 0) (Value.int .u32 (s.ss : Nat)) (Value.int .u32 0) (Value.int .i64 0) (Value.slice (some ⟨g, 0, none⟩) 4 4) e2
      have H9 : Hid (_) := hsixO w.heap.size w2 (Value.int .i64 2) (Value.int .u32 0) (Value.int .u32 (s.ss : Nat)) (Value.int .u32 0) (Value.int .i64 0) (Value.slice (some ⟨g, 0, none⟩) 4 4)
      clear q0 q1 q2 q3 q4 q5 f0 f1 f2 f3 f4 f5 HS HT
      generalize ((((((w2.setCell ⟨w.heap.size, 0, none⟩ (Value.int .i64 2)).setCell ⟨w.heap.size, 1, none⟩ (Value.int .u32 0)).setCell ⟨w.heap.size, 2, none⟩ (Value.int .u32 (s.ss : Nat))).setCell ⟨w.heap.size, 3, none⟩ (Value.int .u32 0)).setCell ⟨w.heap.size, 4, none⟩ (Value.int .i64 0)).setCell ⟨w.heap.size, 5, none⟩ (Value.slice (some ⟨g, 0, none⟩) 4 4)) = w9 at *
      have r0 := cell_of_row w9 w.heap.size 0 _ _ _ e9
      have r1 := cell_of_row w9 w.heap.size 1 _ _ _ e9
      have r2 := cell_of_row w9 w.heap.size 2 _ _ _ e9
      have r3 := cell_of_row w9 w.heap.size 3 _ _ _ e9
      have r4 := cell_of_row w9 w.heap.size 4 _ _ _ e9
      have r5 := cell_of_row w9 w.heap.size 5 _ _ _ e9
      clear e9
      go_wp2_with fail
      refine bodyPost_ret (v := .agg #[Value.int .i64 2, Value.int .u32 0, Value.int .u32 (s.ss : Nat), Value.int .u32 0, Value.int .i64 0, Value.slice (some ⟨g, 0, none⟩) 4 4]) (by simp [results, Tryz.results80, go_sem, r0, r1, r2, r3, r4, r5]) rfl ?_
      have oo := H9.out
      obtain ⟨hb0, hx0, hs0, hU, hv0⟩ := H0.out
      obtain ⟨r2, hg, b2⟩ := h2.out
      have bd := (Below.drew (Below.refl (w.alloc (.cells #[.int .i64 0, .int .u32 0, .int .u32 0, .int .u32 0, .int .i64 0, .slice none 0 0] 175)).heap.size (w.alloc (.cells #[.int .i64 0, .int .u32 0, .int .u32 0, .int .u32 0, .int .i64 0, .slice none 0 0] 175)))).trans b2
      have hg' : (w.alloc (.cells #[.int .i64 0, .int .u32 0, .int .u32 0, .int .u32 0, .int .i64 0, .slice none 0 0] 175)).heap.size ≤ g := hg.1
      exact ⟨2, s.ss, 0, 0, some ⟨g, 0, none⟩, 4, 4, dsg P, rfl, ⟨U, ((Gr.below hb0).trans (Gr.below bd)).new_ oo (Nat.le_refl _), HV.off (HV.below hv0 bd) oo (fun k hk hm => by simp at hm; subst hm; exact hU hk), fun y hy => by cases hy; have := HD.out; exact ⟨by show g ≠ d; omega, .inr (by show w.heap.size ≤ g; omega), Nat.lt_of_lt_of_le hg.2 oo.size⟩⟩, rfl, r2.off oo (fun y hy => by cases hy; simp; omega)⟩
  · by_cases h3 : s.st = 3
    · have bb : Below w.heap.size w (w.alloc (.cells #[.int .i64 3, .int .u32 0, .int .u32 (s.ss : Nat), .int .u32 0, .int .i64 0, .slice none 0 0] 175)) := (Below.refl _ _).alloc (Nat.le_refl _) _
      have H0 : Hid (_) := And.intro bb (HV.below h bb)
      rw [h3] at c8
      unfold hnext
      rw [if_neg (by omega), if_neg (by omega), if_pos h3]
      clear h hb0 hx0 hs0 hU hv0 x0 hL hsn h5 h123 h3 bb
      unfold zU at *
      go_enter Tryz.func80, Tryz.ntmps80
      go_wp2_with fail
      refine bodyPost_ret (v := .agg #[.int .i64 3, .int .u32 0, .int .u32 (s.ss : Nat), .int .u32 0, .int .i64 0, .slice none 0 0]) (by simp [results, Tryz.results80, go_sem]) rfl ?_
      exact ⟨3, s.ss, 0, 0, none, 0, 0, fun _ => 0, rfl, ⟨U, Gr.below H0.out.1, H0.out.2, fun y hy => by cases hy⟩, rfl, row_nilX _ _⟩
    · have hD := hdata_any d P U s _ hv0 (hsn (by omega)) hL (by omega) (by omega) h3
      have H0 : Hid (_) := And.intro hb0 (And.intro hx0 (And.intro hs0 hU))
      have n1 : ((s.st : Int) == 1) = false := by simp; omega
      have n2 : ((s.st : Int) == 2) = false := by simp; omega
      have n3 : ((s.st : Int) == 3) = false := by simp; omega
      clear h hb0 hx0 hs0 hU hv0 x0 hL hsn h5 h123 h3 c9
      unfold zU at *
      go_enter Tryz.func80, Tryz.ntmps80
      go_wp2_with fail
      refine hD.mono ?_
      rintro e w2 ⟨k, ss, num, fl, a, len, cap, bs, rfl, h2⟩
      obtain ⟨hb0, hx0, hs0, hU⟩ := H0.out
      obtain ⟨⟨U2, g2, v2, far⟩, fm, row⟩ := h2.out
      have F2 := g2.far ⟨hs0, hU⟩
      have e2 := F2.2.trans hx0
      obtain ⟨⟨q0, q1, q2, q3, q4, q5⟩, fz⟩ := hsixC e2
      have f0 := fz 0
      have f1 := fz 1
      have f2 := fz 2
      have f3 := fz 3
      have f4 := fz 4
      have f5 := fz 5
      have hne : ∀ y, a = some y → y.block ≠ w.heap.size := fun y hy e => by
        rcases (far y hy).2.1 with hm | hm
        · rw [e] at hm; exact F2.1.2 hm
        · omega
      have H2 : Hid (_) := And.intro ((Gr.below (U := U) hb0).trans g2) (And.intro v2 (And.intro fm (And.intro row (And.intro far (And.intro F2.1 (And.intro hne hs0))))))
      clear hD h2 hb0 hx0 hs0 hU g2 v2 fm row far F2 e2 fz hne H0 c8
      go_wp2_with fail
      refine bodyPost_ret (v := .agg #[.int .i64 (k : Nat), .int .u32 0, .int .u32 (ss : Nat), .int .u32 (num : Nat), .int .i64 (fl : Nat), .slice a len cap]) (by simp [results, Tryz.results80, go_sem, q0, q1, q2, q3, q4, q5]) rfl ?_
      obtain ⟨g2, v2, fm, row, far, F2, hne, hs0⟩ := H2.out
      have oo := hsixO w.heap.size w2 (.int .i64 (k : Nat)) (.int .u32 0) (.int .u32 (ss : Nat)) (.int .u32 (num : Nat)) (.int .i64 (fl : Nat)) (.slice a len cap)
      exact ⟨k, ss, num, fl, a, len, cap, bs, rfl, ⟨U2, g2.new_ oo (Nat.le_refl _), v2.off oo (fun k hk hm => by simp at hm; subst hm; exact F2.2 hk), fun y hy => ⟨(far y hy).1, (far y hy).2.1.imp id (fun h => by omega), Nat.lt_of_lt_of_le (far y hy).2.2 oo.size⟩⟩, fm, row.off oo (fun y hy => by simpa using hne y hy)⟩
end Go.Proofs.YtpbcgpdfjplidaaGreat
namespace Go.Proofs.YtpbcgpdfjplidaaGreat
set_option maxRecDepth 100000
open Go.RowKit
set_option maxHeartbeats 3200000 in
theorem hmiss_any (d : Nat) (P : Pm) (U : List Nat) (s : Sh) (w : World) (h : HV w d P U s) (ho : s.ms < 4) (hL : s.L.length < 900000) :
    Calls Tryz.prog 79 #[.pointer (some ⟨d, 0, none⟩)] w fun e w' => e = .returned (.tuple #[]) ∧ Hid (∃ U', Gr U w U' w' ∧ HV w' d P U' (hmiss s)) := by
  obtain ⟨B, h⟩ := h
  have c8 := h.c8
  have c12 := h.c12
  have c13 := h.c13
  have z13 := h.fz 13
  unfold hmiss
  by_cases h1 : s.st = 1
  · rw [if_pos (.inl h1)]
    rw [h1] at c8
    have H : Hid (_) := h
    clear h h1 c12 c13 z13
    go_enter Tryz.func79, Tryz.ntmps79
    go_wp2_with fail
    refine bodyPost_ret (results_none rfl _ _ _) rfl ?_
    exact ⟨rfl, U, Gr.refl _ _, B, H.out⟩
  · have n1 : ((s.st : Int) == 1) = false := by simp; omega
    have n1' : ((s.st : Int) = 1) = False := by simp; omega
    by_cases hw : s.wt = false
    · rw [if_pos (.inr hw)]
      rw [hw] at c12
      have H : Hid (_) := h
      clear h h1 c13 z13
      go_enter Tryz.func79, Tryz.ntmps79
      go_wp2_with fail
      refine bodyPost_ret (results_none rfl _ _ _) rfl ?_
      exact ⟨rfl, U, Gr.refl _ _, B, H.out⟩
    · rw [if_neg (by simp [h1, hw])]
      have hw' : s.wt = true := by simpa using hw
      rw [hw'] at c12
      obtain ⟨m1, hm1⟩ : ∃ k, s.ms + 1 = k := ⟨_, rfl⟩
      rw [hm1]
      have o1 := Off.setCell d 13 w (.int .i64 (m1 : Int))
      have x1 := h.own o1 (s' := { s with ms := m1 }) (heap_setCell_same _ _ _ _ _ _ h.dev) rfl rfl rfl rfl
      have g1 : Gr U w U (w.setCell ⟨d, 13, none⟩ (.int .i64 (m1 : Int))) := Gr.same o1 (by simp [h.kd.2])
      have i1 : (s.ms : Int) + 1 = (m1 : Int) := by omega
      have i2 : IntKind.i64.wrap ((s.ms : Int) + 1) = (m1 : Int) := by rw [IntKind.wrap_i64]; omega
      clear hm1
      by_cases h4 : m1 < 4
      · rw [if_pos h4]
        have h4' : (m1 : Int) < 4 := by omega
        have H : Hid (_) := And.intro g1 x1
        clear h h1 o1 x1 g1 hL h4 hw hw'
        go_enter Tryz.func79, Tryz.ntmps79
        go_wp2_with fail
        refine bodyPost_ret (results_none rfl _ _ _) rfl ?_
        exact ⟨rfl, U, H.out.1, B, H.out.2⟩
      · rw [if_neg h4]
        have h4' : ¬ (m1 : Int) < 4 := by omega
        by_cases hr : s.st = 4
        · rw [if_pos hr]
          have hT := hlatch_any d P U { s with ms := m1 } 131 _ ⟨B, x1⟩ (by omega) (by decide) hL
          rw [hr] at c8
          have H : Hid (_) := g1
          clear h h1 o1 x1 g1 hL h4 hw hw' hr n1 n1'
          go_enter Tryz.func79, Tryz.ntmps79
          go_wp2_with (go_at_call 102; refine hT.mono ?_; rintro e w2 ⟨rfl, h2⟩)
          obtain ⟨U2, g2, x2⟩ := h2.out
          have hV := hgive_any d P U2 _ w2 x2
          have H2 : Hid (_) := H.out.trans g2
          clear hT h2 g2 x2 c8 c12 c13 z13 H
          go_wp2_with (go_at_call 103; refine hV.mono ?_; rintro e w3 ⟨rfl, h3⟩)
          go_end0
          obtain ⟨U3, g3, x3⟩ := h3.out
          exact ⟨rfl, U3, H2.out.trans g3, x3⟩
        · rw [if_neg hr]
          have hr' : (((s.st : Nat) : Int) == 4) = false := by simp; omega
          have hV := hgive_any d P U { s with ms := m1 } _ ⟨B, x1⟩
          have H : Hid (_) := g1
          clear h h1 o1 x1 g1 hL h4 hr hw hw'
          go_enter Tryz.func79, Tryz.ntmps79
          go_wp2_with (go_at_call 103; refine hV.mono ?_; rintro e w3 ⟨rfl, h3⟩)
          go_end0
          obtain ⟨U3, g3, x3⟩ := h3.out
          exact ⟨rfl, U3, H.out.trans g3, x3⟩
def OutH (U : List Nat) (w w' : World) (d : Nat) (P : Pm) (s : Sh) (f : Fm) (v : Value) : Prop :=
  ∃ U', Gr U w U' w' ∧ HV w' d P U' s ∧ Fr w' w.heap.size v f ∧ ∀ k, v.ownBlock = some k → k ∉ U'
theorem hmiss_L (s : Sh) : (hmiss s).L.length ≤ s.L.length + 1 := by
  unfold hmiss
  split
  · omega
  · split
    · show s.L.length ≤ _; omega
    · show (if s.st = 4 then hlatch { s with ms := s.ms + 1 } 131 else { s with ms := s.ms + 1 }).L.length ≤ _
      split
      · unfold hlatch hnote
        split <;> simp
      · show s.L.length ≤ _; omega
theorem hmiss_st (s : Sh) (h : 1 ≤ s.st ∧ s.st ≤ 4) : 1 ≤ (hmiss s).st ∧ (hmiss s).st ≤ 4 ∧ ((hmiss s).st = 4 → s.st = 4 ∧ (hmiss s).sn = s.sn) := by
  unfold hmiss
  split
  · exact ⟨h.1, h.2, fun e => ⟨e, rfl⟩⟩
  · split
    · exact ⟨h.1, h.2, fun e => ⟨e, rfl⟩⟩
    · exact ⟨by show 1 ≤ 1; omega, by show 1 ≤ 4; omega, fun e => by have e : (1 : Nat) = 4 := e; omega⟩
set_option maxHeartbeats 6400000 in
theorem hsend_any (d : Nat) (P : Pm) (U : List Nat) (s : Sh) (w : World) (h : HV w d P U s) (ho : s.ms < 4) (h5 : 1 ≤ s.st ∧ s.st ≤ 5) (hsn : s.st = 4 → s.sn + 1 < 4294967296) (hL : s.L.length < 700000) :
    Calls Tryz.prog 61 #[.pointer (some ⟨d, 0, none⟩)] w fun e w' => ∃ v, e = .returned (.tuple #[v, .int .i64 (hsendE s)]) ∧ Hid (OutH U w w' d P (hsendS P s) (hsendF P s) v) := by
  obtain ⟨B, x⟩ := id h
  have c8 := x.c8
  unfold hsendE hsendS hsendF
  by_cases hd : s.st = 5
  · rw [if_pos hd, if_pos hd, if_pos hd]
    rw [hd] at c8
    have H : Hid (_) := h
    clear h x ho h5 hsn hL hd
    go_enter Tryz.func61, Tryz.ntmps61
    go_wp2_with fail
    go_ret2
    exact ⟨_, rfl, U, Gr.refl _ _, H.out, own_nil _ _ _, fun k hk => by cases hk⟩
  · rw [if_neg hd, if_neg hd, if_neg hd]
    have n5 : ((s.st : Int) == 5) = false := by simp; omega
    have hM := hmiss_any d P U s w h ho (by omega)
    have hq := hmiss_st s ⟨h5.1, by omega⟩
    have hl := hmiss_L s
    have hN : ∀ w2 U2, HV w2 d P U2 (hmiss s) → Calls Tryz.prog 80 #[.pointer (some ⟨d, 0, none⟩)] w2 fun e w' => ∃ k ss num fl a len cap bs, e = .returned (.agg #[.int .i64 ((k : Nat) : Int), .int .u32 0, .int .u32 ((ss : Nat) : Int), .int .u32 ((num : Nat) : Int), .int .i64 ((fl : Nat) : Int), .slice a len cap]) ∧ Hid (Un U2 w2 w' d P (hnext P (hmiss s)).1 (hnext P (hmiss s)).2 k ss num fl a len cap bs) := by
      intro w2 U2 v2
      refine hnext_any d P U2 (hmiss s) w2 v2 (fun e => ?_) ⟨hq.1, by omega⟩ (by omega)
      rcases e with e | e
      · rw [(hq.2.2 e).2]; exact hsn (hq.2.2 e).1
      · omega
    generalize hnext P (hmiss s) = R at *
    have HN : Hid (_) := hN
    clear h x ho h5 hsn hL hd hq hl hN
    go_enter Tryz.func61, Tryz.ntmps61
    go_wp2_with fail
    refine hM.mono ?_
    rintro e w2 ⟨rfl, h2⟩
    obtain ⟨U2, g2, v2⟩ := h2.out
    have hN := HN.out w2 U2 v2
    have H2 : Hid (_) := g2
    clear hM h2 g2 v2 HN c8 n5
    go_wp2_with fail
    refine hN.mono ?_
    rintro e w3 ⟨k, ss, num, fl, a, len, cap, bs, rfl, h3⟩
    obtain ⟨⟨U3, g3, ⟨B3, x3⟩, far⟩, fm, row⟩ := h3.out
    have hb4 : ∀ ob, Below w3.heap.size w3 (w3.alloc ob) := fun ob => (Below.refl _ _).alloc (Nat.le_refl _) _
    have hU3 : w3.heap.size ∉ U3 := fun hm => by have := x3.ltU _ hm; omega
    have hdn : ¬ d = w3.heap.size := fun e => hU3 (by rw [← e]; exact x3.kd.2)
    have hdn' : ¬ w3.heap.size = d := fun e => hdn e.symm
    have c0 : ∀ ob, (w3.alloc ob).cell? ⟨d, 0, none⟩ = some (.int .u32 (P.c : Nat)) := fun ob => (x3.newd (Off.of_below (hb4 ob))).c0
    have c12 : ∀ ob, (w3.alloc ob).cell? ⟨d, 12, none⟩ = some (.bool R.1.wt) := fun ob => (x3.newd (Off.of_below (hb4 ob))).c12
    have z12 : ∀ ob, (w3.alloc ob).frozen? ⟨d, 12, none⟩ = false := fun ob => (x3.newd (Off.of_below (hb4 ob))).fz 12
    have hX : ∀ ob, HX ((w3.alloc ob).setCell ⟨d, 12, none⟩ (.bool true)) d P U3 { R.1 with wt := true } B3 ∧ Gr U3 w3 U3 ((w3.alloc ob).setCell ⟨d, 12, none⟩ (.bool true)) ∧ Row8 ((w3.alloc ob).setCell ⟨d, 12, none⟩ (.bool true)) a len cap bs := by
      intro ob
      have x5 := x3.newd (Off.of_below (hb4 ob))
      have o6 := Off.setCell d 12 (w3.alloc ob) (.bool true)
      exact ⟨x5.own o6 (s' := { R.1 with wt := true }) (heap_setCell_same _ _ _ _ _ _ x5.dev) rfl rfl rfl rfl, (Gr.below (hb4 ob)).trans (Gr.same o6 (by simp [x3.kd.2])), (row.below (hb4 ob)).off o6 (fun y hy => by simpa using (far y hy).1)⟩
    have hE : ∀ wx, Row8 wx a len cap bs → Calls Tryz.prog 81 #[.agg #[.int .i64 (k : Nat), .int .u32 (P.c : Nat), .int .u32 (ss : Nat), .int .u32 (num : Nat), .int .i64 (fl : Nat), .slice a len cap]] wx fun e w' => ∃ v E, e = .returned (.tuple #[v, .int .i64 E]) ∧ Hid (Fr w' wx.heap.size v R.2 ∧ Below wx.heap.size wx w') := by
      intro wx hr
      rw [fm]
      unfold encF
      by_cases hE : LW k P.c ss num fl len len = 0
      · rw [if_pos hE]
        refine (encode_good k P.c ss num fl a len cap bs wx hr hE).mono ?_
        rintro e w' ⟨v, rfl, h4⟩
        exact ⟨v, 0, rfl, h4.out⟩
      · rw [if_neg hE]
        refine (encode_bad k P.c ss num fl a len cap wx hE).mono ?_
        rintro e w' ⟨rfl, h4⟩
        exact ⟨_, _, rfl, own_nil _ _ _, h4⟩
    have hEX := fun ob => hE _ (hX ob).2.2
    have H3 : Hid (_) := And.intro (H2.out.trans g3) hX
    clear hN h3 g3 x3 far fm row hb4 hU3 hX H2 hE
    go_wp2_with fail
    refine (hEX _).mono ?_
    rintro e w5 ⟨v, E, rfl, h5⟩
    have H5 : Hid (OutH U w w5 d P { R.1 with wt := true } R.2 v) := by
      obtain ⟨g3, hX⟩ := H3.out
      obtain ⟨x4, g4, _⟩ := hX (.cells #[.int .i64 (k : Nat), .int .u32 (P.c : Nat), .int .u32 (ss : Nat), .int .u32 (num : Nat), .int .i64 (fl : Nat), .slice a len cap] 175)
      obtain ⟨f5, b5⟩ := h5.out
      have gg := g3.trans g4
      exact ⟨U3, gg.trans (Gr.below b5), ⟨B3, x4.newd (Off.of_below b5)⟩, own_base f5 gg.off.size, fun j hj hm => by have := x4.ltU j hm; have := Fr.ge f5 j hj; omega⟩
    clear hEX c0 c12 z12 H3 h5
    go_wp2_with fail
    go_ret2
    exact ⟨v, rfl, H5⟩
end Go.Proofs.YtpbcgpdfjplidaaGreat
