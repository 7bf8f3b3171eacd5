/- Layer 20: a net copied: its lists are new. (out of Ncs.lean) -/
import Derived.Test.YtiikebaehoobnaaDoorJSw3
namespace Go.Proofs.YtiikebaehoobnaaDoor
set_option maxRecDepth 100000
open Go.RowKit Go.Maps
set_option maxRecDepth 100000
set_option linter.unusedVariables false
theorem netfinO {w W w4 : World} {y0 y1 : Option Addr} {l0 k0 l1 k1 ms : Nat} {P0 P1 : Nat → Pg} (b4 : Below W.heap.size W w4) (hz : W.heap[w.heap.size + 1]? = some (.cells #[.slice none 0 0, .slice none 0 0, .int .u32 0] 25 (0, 0))) (hlt : w.heap.size + 2 ≤ W.heap.size) (o1 : w4.ownsRow W.heap.size 63 5 (.slice y0 l0 k0) l0 (flP l0 P0)) (o2 : w4.ownsRow W.heap.size 63 5 (.slice y1 l1 k1) l1 (flP l1 P1)) :
    Below (w.heap.size + 1) W (((w4.setCell ⟨w.heap.size + 1, 0, none⟩ (.slice y0 l0 k0)).setCell ⟨w.heap.size + 1, 1, none⟩ (.slice y1 l1 k1)).setCell ⟨w.heap.size + 1, 2, none⟩ (.int .u32 (ms : Nat))) ∧ (((w4.setCell ⟨w.heap.size + 1, 0, none⟩ (.slice y0 l0 k0)).setCell ⟨w.heap.size + 1, 1, none⟩ (.slice y1 l1 k1)).setCell ⟨w.heap.size + 1, 2, none⟩ (.int .u32 (ms : Nat))).heap[w.heap.size + 1]? = some (.cells #[.slice y0 l0 k0, .slice y1 l1 k1, .int .u32 (ms : Nat)] 25 (0, 0)) ∧ World.ownsRow (((w4.setCell ⟨w.heap.size + 1, 0, none⟩ (.slice y0 l0 k0)).setCell ⟨w.heap.size + 1, 1, none⟩ (.slice y1 l1 k1)).setCell ⟨w.heap.size + 1, 2, none⟩ (.int .u32 (ms : Nat))) W.heap.size 63 5 (.slice y0 l0 k0) l0 (flP l0 P0) ∧ World.ownsRow (((w4.setCell ⟨w.heap.size + 1, 0, none⟩ (.slice y0 l0 k0)).setCell ⟨w.heap.size + 1, 1, none⟩ (.slice y1 l1 k1)).setCell ⟨w.heap.size + 1, 2, none⟩ (.int .u32 (ms : Nat))) W.heap.size 63 5 (.slice y1 l1 k1) l1 (flP l1 P1) ∧ Below (w.heap.size + 1) W (((w4.setCell ⟨w.heap.size + 1, 0, none⟩ (.slice y0 l0 k0)).setCell ⟨w.heap.size + 1, 1, none⟩ (.slice y1 l1 k1)).setCell ⟨w.heap.size + 1, 2, none⟩ (.int .u32 (ms : Nat))) := by
  have o : Off [w.heap.size + 1] w4 (((w4.setCell ⟨w.heap.size + 1, 0, none⟩ (.slice y0 l0 k0)).setCell ⟨w.heap.size + 1, 1, none⟩ (.slice y1 l1 k1)).setCell ⟨w.heap.size + 1, 2, none⟩ (.int .u32 (ms : Nat))) := ((Off.setCell _ _ _ _).trans (Off.setCell _ _ _ _)).trans (Off.setCell _ _ _ _)
  have h4 := (b4.block (w.heap.size + 1) (by omega)).trans hz
  have bb := o.below (b4.mono (B' := w.heap.size + 1) (by omega)) (fun k hk => by simp at hk; omega) (by have := b4.size; omega)
  have kp : ∀ {y : Option Addr} {l k : Nat} {P : Nat → Pg}, w4.ownsRow W.heap.size 63 5 (.slice y l k) l (flP l P) → World.ownsRow (((w4.setCell ⟨w.heap.size + 1, 0, none⟩ (.slice y0 l0 k0)).setCell ⟨w.heap.size + 1, 1, none⟩ (.slice y1 l1 k1)).setCell ⟨w.heap.size + 1, 2, none⟩ (.int .u32 (ms : Nat))) W.heap.size 63 5 (.slice y l k) l (flP l P) := fun h => own_keepP h (fun g hg => o.block g (h.lt g hg).2 (by have := (h.lt g hg).1; simp; omega))
  exact ⟨bb, heap_setCell_same _ _ _ _ _ _ (heap_setCell_same _ _ _ _ _ _ (heap_setCell_same _ _ _ _ _ _ h4)), kp o1, kp o2, bb⟩
theorem ncopiedO (a0 : Option Addr) (l0 c0 : Nat) (P0 : Nat → Pg) (a1 : Option Addr) (l1 c1 : Nat) (P1 : Nat → Pg) (ms : Nat) (w : World) (h0 : PRow w a0 l0 P0) (h1 : PRow w a1 l1 P1) (g0 : l0 * 40 ≤ 140737488351232 ∧ (a0 = none → l0 = 0 ∧ c0 = 0)) (g1 : l1 * 40 ≤ 140737488351232 ∧ (a1 = none → l1 = 0 ∧ c1 = 0)) :
    Calls Tryd.prog 17 #[.agg #[.slice a0 l0 c0, .slice a1 l1 c1, .int .u32 (ms : Nat)]] w fun r w' => ∃ y0 k0 y1 k1, r = .returned (.agg #[.slice y0 l0 k0, .slice y1 l1 k1, .int .u32 (ms : Nat)]) ∧ w'.ownsRow w.heap.size 63 5 (.slice y0 l0 k0) l0 (flP l0 P0) ∧ w'.ownsRow w.heap.size 63 5 (.slice y1 l1 k1) l1 (flP l1 P1) ∧ Below w.heap.size w w' := by
  obtain ⟨W, hW⟩ : ∃ W : World, (w.alloc (.cells #[.slice a0 l0 c0, .slice a1 l1 c1, .int .u32 (ms : Nat)] 25)).alloc (.cells #[.slice none 0 0, .slice none 0 0, .int .u32 0] 25) = W := ⟨_, rfl⟩
  have bW : Below w.heap.size w W := by rw [← hW]; exact belowG (belowG (Below.refl _ _) _) _
  have hlt : w.heap.size + 2 ≤ W.heap.size := by rw [← hW]; simp
  have eB : W.heap[w.heap.size]? = some (.cells #[.slice a0 l0 c0, .slice a1 l1 c1, .int .u32 (ms : Nat)] 25 (0, 0)) := by
    rw [← hW]
    exact ((belowG (Below.refl _ (w.alloc (.cells #[.slice a0 l0 c0, .slice a1 l1 c1, .int .u32 (ms : Nat)] 25))) _).block w.heap.size (by simp)).trans (heap_alloc_new w _)
  have HZ : Hid (W.heap[w.heap.size + 1]? = some (.cells #[.slice none 0 0, .slice none 0 0, .int .u32 0] 25 (0, 0))) := by
    rw [← hW]
    have := heap_alloc_new (w.alloc (.cells #[.slice a0 l0 c0, .slice a1 l1 c1, .int .u32 (ms : Nat)] 25)) (.cells #[.slice none 0 0, .slice none 0 0, .int .u32 0] 25)
    simp only [World.size_alloc] at this
    exact this
  have hS : ∀ wx, Below (w.heap.size + 1) W wx → wx.cell? ⟨w.heap.size, 0, none⟩ = some (.slice a0 l0 c0) ∧ wx.cell? ⟨w.heap.size, 1, none⟩ = some (.slice a1 l1 c1) ∧ wx.cell? ⟨w.heap.size, 2, none⟩ = some (.int .u32 (ms : Nat)) := fun wx bx => by
    have h := (bx.block w.heap.size (by omega)).trans eB
    exact ⟨cell_of_row wx _ 0 _ _ _ h, cell_of_row wx _ 1 _ _ _ h, cell_of_row wx _ 2 _ _ _ h⟩
  obtain ⟨r0, r1, r2⟩ := hS W (Below.refl _ _)
  have q0 := h0.below bW
  have q1 := h1.below bW
  have HBw : Hid (_) := bW
  clear h0 h1 bW eB
  go_enter Tryd.func17, Tryd.ntmps17
  go_wp2_with fail
  have HB0 : Hid (Below (w.heap.size + 1) W W.drew) := Below.drew (Below.refl _ _)
  refine wp_region_held_drew (S := fun wx => wx.cell? ⟨w.heap.size, 0, none⟩ = some (.slice a0 l0 c0) ∧ wx.cell? ⟨w.heap.size, 1, none⟩ = some (.slice a1 l1 c1) ∧ wx.cell? ⟨w.heap.size, 2, none⟩ = some (.int .u32 (ms : Nat))) (by kernel_rfl) (hS _ HB0.out) (fun _ => ?_)
  refine held_at (a' := { tmps := #[.agg #[.slice a0 l0 c0, .slice a1 l1 c1, .int .u32 (ms : Nat)], .pointer (some ⟨w.heap.size, 0, none⟩), .pointer (some ⟨w.heap.size + 1, 0, none⟩), undef, undef, undef, undef, undef, undef, undef, undef, undef, undef, undef], defers := [] }) (l' := #[false, false, false, false, false, false, false, false, false, false, false, false]) (by kernel_rfl) (by kernel_rfl) ?_
  refine wpAnyH_take (i := 1) (v := .pointer (some ⟨w.heap.size, 0, none⟩)) rfl (by kernel_rfl) (by kernel_rfl) (by kernel_rfl) (fun _ _ _ h => h) (Or.inl ⟨by kernel_rfl, fun w hSw => by go_simp⟩) (hS _ HB0.out) ?_
  refine wpAnyH_take (i := 2) (v := .slice a0 l0 c0) rfl (by kernel_rfl) (by kernel_rfl) (by kernel_rfl) (fun _ _ _ h => h) (Or.inl ⟨by kernel_rfl, fun w hSw => by go_simp⟩) (hS _ HB0.out) ?_
  refine wpAnyH_take (i := 5) (v := .pointer (some ⟨w.heap.size, 1, none⟩)) rfl (by kernel_rfl) (by kernel_rfl) (by kernel_rfl) (fun _ _ _ h => h) (Or.inl ⟨by kernel_rfl, fun w hSw => by go_simp⟩) (hS _ HB0.out) ?_
  refine wpAnyH_take (i := 6) (v := .slice a1 l1 c1) rfl (by kernel_rfl) (by kernel_rfl) (by kernel_rfl) (fun _ _ _ h => h) (Or.inl ⟨by kernel_rfl, fun w hSw => by go_simp⟩) (hS _ HB0.out) ?_
  refine wpAnyH_take (i := 8) (v := .pointer (some ⟨w.heap.size, 2, none⟩)) rfl (by kernel_rfl) (by kernel_rfl) (by kernel_rfl) (fun _ _ _ h => h) (Or.inl ⟨by kernel_rfl, fun w hSw => by go_simp⟩) (hS _ HB0.out) ?_
  refine wpAnyH_take (i := 9) (v := .int .u32 (ms : Nat)) rfl (by kernel_rfl) (by kernel_rfl) (by kernel_rfl) (fun _ _ _ h => h) (Or.inl ⟨by kernel_rfl, fun w hSw => by go_simp⟩) (hS _ HB0.out) ?_
  refine held_at (a' := { tmps := #[.agg #[.slice a0 l0 c0, .slice a1 l1 c1, .int .u32 (ms : Nat)], .pointer (some ⟨w.heap.size, 0, none⟩), .pointer (some ⟨w.heap.size + 1, 0, none⟩), undef, .pointer (some ⟨w.heap.size, 0, none⟩), .slice a0 l0 c0, undef, undef, .pointer (some ⟨w.heap.size, 1, none⟩), .slice a1 l1 c1, undef, .pointer (some ⟨w.heap.size, 2, none⟩), .int .u32 (ms : Nat), undef], defers := [] }) (l' := #[false, true, true, false, false, true, true, false, true, true, false, false]) (by kernel_rfl) (by kernel_rfl) ?_
  refine held_forkN (i := 0) (j := 4) (by kernel_rfl) ?_ ?_
  · refine any_val (.slice (some ⟨W.heap.size, 0, none⟩) 0 0) ((W.alloc (.cells #[] 63)).drew) rfl (by kernel_rfl) (by go_simp) ⟨(hS _ ((belN1 W).mono (by omega))), ?_⟩
    refine held_at (a' := { tmps := #[.agg #[.slice a0 l0 c0, .slice a1 l1 c1, .int .u32 (ms : Nat)], .pointer (some ⟨w.heap.size, 0, none⟩), .pointer (some ⟨w.heap.size + 1, 0, none⟩), .slice (some ⟨W.heap.size, 0, none⟩) 0 0, .pointer (some ⟨w.heap.size, 0, none⟩), .slice a0 l0 c0, undef, undef, .pointer (some ⟨w.heap.size, 1, none⟩), .slice a1 l1 c1, undef, .pointer (some ⟨w.heap.size, 2, none⟩), .int .u32 (ms : Nat), undef], defers := [] }) (l' := #[true, true, true, false, false, true, true, false, true, true, false, false]) (by kernel_rfl) (by kernel_rfl) ?_
    refine held_forkN (i := 3) (j := 4) (by kernel_rfl) ?_ ?_
    · refine wpOp_step rfl (fun K' hK' => ?_)
      refine step_appN rfl (.tmp 3) (.tmp 5) rfl rfl W.heap.size (.slice (some ⟨W.heap.size, 0, none⟩) 0 0) (by simp [Act.eval]) (ownN0 W) a0 l0 c0 P0 (by simp [Act.eval]) (q0.below (belN1 W)) g0 (by simp) ?_
      intro y0 k0 w3 h3
      have B3 : Hid (Below W.heap.size W w3) := (belN1 W).grown h3.out.2.1 (belN1 W).size (fun j hj => ((ownN0 W).lt j hj).1)
      refine hK' _ _ ⟨hS _ (B3.out.mono (by omega)), ?_⟩
      refine held_at (a' := { tmps := #[.agg #[.slice a0 l0 c0, .slice a1 l1 c1, .int .u32 (ms : Nat)], .pointer (some ⟨w.heap.size, 0, none⟩), .pointer (some ⟨w.heap.size + 1, 0, none⟩), .slice (some ⟨W.heap.size, 0, none⟩) 0 0, .pointer (some ⟨w.heap.size, 0, none⟩), .slice a0 l0 c0, .slice y0 l0 k0, undef, .pointer (some ⟨w.heap.size, 1, none⟩), .slice a1 l1 c1, undef, .pointer (some ⟨w.heap.size, 2, none⟩), .int .u32 (ms : Nat), undef], defers := [] }) (l' := #[true, true, true, true, false, true, true, false, true, true, false, false]) (by kernel_rfl) (by kernel_rfl) ?_
      have B3a : Hid (Below W.heap.size W (w3.alloc (.cells #[] 63))) := belowG B3.out _
      refine held_oneN (i := 4) (by kernel_rfl) (any_val (.slice (some ⟨w3.heap.size, 0, none⟩) 0 0) (w3.alloc (.cells #[] 63)) rfl (by kernel_rfl) (by go_simp) ⟨(hS _ (B3a.out.mono (by omega))), ?_⟩)
      refine held_at (a' := { tmps := #[.agg #[.slice a0 l0 c0, .slice a1 l1 c1, .int .u32 (ms : Nat)], .pointer (some ⟨w.heap.size, 0, none⟩), .pointer (some ⟨w.heap.size + 1, 0, none⟩), .slice (some ⟨W.heap.size, 0, none⟩) 0 0, .pointer (some ⟨w.heap.size, 0, none⟩), .slice a0 l0 c0, .slice y0 l0 k0, .slice (some ⟨w3.heap.size, 0, none⟩) 0 0, .pointer (some ⟨w.heap.size, 1, none⟩), .slice a1 l1 c1, undef, .pointer (some ⟨w.heap.size, 2, none⟩), .int .u32 (ms : Nat), undef], defers := [] }) (l' := #[true, true, true, true, true, true, true, false, true, true, false, false]) (by kernel_rfl) (by kernel_rfl) ?_
      refine held_oneN (i := 7) (by kernel_rfl) (wpOp_step rfl (fun K' hK' => ?_))
      refine step_appN rfl (.tmp 7) (.tmp 9) rfl rfl W.heap.size (.slice (some ⟨w3.heap.size, 0, none⟩) 0 0) (by simp [Act.eval]) (ownN w3 W.heap.size B3.out.size) a1 l1 c1 P1 (by simp [Act.eval]) (q1.below B3a.out) g1 (by simp) ?_
      intro y1 k1 w4 hw4
      have B4 : Hid (Below W.heap.size W w4) := B3a.out.grown hw4.out.2.1 B3a.out.size (fun j hj => ((ownN w3 W.heap.size B3.out.size).lt j hj).1)
      have O1 : Hid (w4.ownsRow W.heap.size 63 5 (.slice y0 l0 k0) l0 (flP l0 P0)) := own_keepP (own_belowP h3.out.1 (belowG (Below.refl _ _) (.cells #[] 63))) (fun g hg => hw4.out.2.1.block g (by have := (h3.out.1.lt g hg).2; simp; omega) (fun e => by have := (h3.out.1.lt g hg).2; simp [Value.ownBlock] at e; omega))
      refine hK' _ _ ⟨hS _ (B4.out.mono (by omega)), ?_⟩
      refine held_at (a' := { tmps := #[.agg #[.slice a0 l0 c0, .slice a1 l1 c1, .int .u32 (ms : Nat)], .pointer (some ⟨w.heap.size, 0, none⟩), .pointer (some ⟨w.heap.size + 1, 0, none⟩), .slice (some ⟨W.heap.size, 0, none⟩) 0 0, .pointer (some ⟨w.heap.size, 0, none⟩), .slice a0 l0 c0, .slice y0 l0 k0, .slice (some ⟨w3.heap.size, 0, none⟩) 0 0, .pointer (some ⟨w.heap.size, 1, none⟩), .slice a1 l1 c1, .slice y1 l1 k1, .pointer (some ⟨w.heap.size, 2, none⟩), .int .u32 (ms : Nat), undef], defers := [] }) (l' := #[true, true, true, true, true, true, true, true, true, true, false, false]) (by kernel_rfl) (by kernel_rfl) ?_
      refine wpAnyH_take (i := 10) (v := .agg #[.slice y0 l0 k0, .slice y1 l1 k1, .int .u32 (ms : Nat)]) rfl (by kernel_rfl) (by kernel_rfl) (by kernel_rfl) (fun _ _ _ h => h) (Or.inl ⟨by kernel_rfl, fun w hSw => by go_simp⟩) (hS _ (B4.out.mono (by omega))) ?_
      refine held_at (a' := { tmps := #[.agg #[.slice a0 l0 c0, .slice a1 l1 c1, .int .u32 (ms : Nat)], .pointer (some ⟨w.heap.size, 0, none⟩), .pointer (some ⟨w.heap.size + 1, 0, none⟩), .slice (some ⟨W.heap.size, 0, none⟩) 0 0, .pointer (some ⟨w.heap.size, 0, none⟩), .slice a0 l0 c0, .slice y0 l0 k0, .slice (some ⟨w3.heap.size, 0, none⟩) 0 0, .pointer (some ⟨w.heap.size, 1, none⟩), .slice a1 l1 c1, .slice y1 l1 k1, .pointer (some ⟨w.heap.size, 2, none⟩), .int .u32 (ms : Nat), .agg #[.slice y0 l0 k0, .slice y1 l1 k1, .int .u32 (ms : Nat)]], defers := [] }) (l' := #[true, true, true, true, true, true, true, true, true, true, true, false]) (by kernel_rfl) (by kernel_rfl) ?_
      have HF := netfinO (ms := ms) B4.out HZ.out hlt O1.out hw4.out.1
      obtain ⟨z0, z1, z2, zf⟩ := netcells B4.out HZ.out
      refine held_skip (i := 11) (((w4.setCell ⟨w.heap.size + 1, 0, none⟩ (.slice y0 l0 k0)).setCell ⟨w.heap.size + 1, 1, none⟩ (.slice y1 l1 k1)).setCell ⟨w.heap.size + 1, 2, none⟩ (.int .u32 (ms : Nat))) (by kernel_rfl) rfl (by kernel_rfl) (by go_simp) (hS _ HF.1) ?_
      refine held_at (a' := { tmps := #[.agg #[.slice a0 l0 c0, .slice a1 l1 c1, .int .u32 (ms : Nat)], .pointer (some ⟨w.heap.size, 0, none⟩), .pointer (some ⟨w.heap.size + 1, 0, none⟩), .slice (some ⟨W.heap.size, 0, none⟩) 0 0, .pointer (some ⟨w.heap.size, 0, none⟩), .slice a0 l0 c0, .slice y0 l0 k0, .slice (some ⟨w3.heap.size, 0, none⟩) 0 0, .pointer (some ⟨w.heap.size, 1, none⟩), .slice a1 l1 c1, .slice y1 l1 k1, .pointer (some ⟨w.heap.size, 2, none⟩), .int .u32 (ms : Nat), .agg #[.slice y0 l0 k0, .slice y1 l1 k1, .int .u32 (ms : Nat)]], defers := [] }) (l' := #[true, true, true, true, true, true, true, true, true, true, true, true]) (by kernel_rfl) (by kernel_rfl) ?_
      refine wpAnyH_done (by kernel_rfl) ?_ _
      have HR : Hid (_) := HF.2
      have rr0 := cell_of_row _ _ 0 _ _ _ HF.2.1
      have rr1 := cell_of_row _ _ 1 _ _ _ HF.2.1
      have rr2 := cell_of_row _ _ 2 _ _ _ HF.2.1
      generalize ((w4.setCell ⟨w.heap.size + 1, 0, none⟩ (.slice y0 l0 k0)).setCell ⟨w.heap.size + 1, 1, none⟩ (.slice y1 l1 k1)).setCell ⟨w.heap.size + 1, 2, none⟩ (.int .u32 (ms : Nat)) = W9 at *
      clear z0 z1 z2 zf
      go_wp2_with fail
      refine bodyPost_ret (v := .agg #[.slice y0 l0 k0, .slice y1 l1 k1, .int .u32 (ms : Nat)]) (by simp [results, Tryd.results17, go_sem, rr0, rr1, rr2]) rfl ⟨_, _, _, _, rfl, own_baseS HR.out.2.1 (by omega), own_baseS HR.out.2.2.1 (by omega), ?_⟩
      exact HBw.out.trans (HR.out.2.2.2.mono (by omega))
    · refine any_val (.slice (some ⟨W.heap.size + 1, 0, none⟩) 0 0) (((W.alloc (.cells #[] 63)).alloc (.cells #[] 63)).drew) rfl (by kernel_rfl) (by go_simp) ⟨(hS _ ((belN2 W).mono (by omega))), ?_⟩
      refine held_at (a' := { tmps := #[.agg #[.slice a0 l0 c0, .slice a1 l1 c1, .int .u32 (ms : Nat)], .pointer (some ⟨w.heap.size, 0, none⟩), .pointer (some ⟨w.heap.size + 1, 0, none⟩), .slice (some ⟨W.heap.size, 0, none⟩) 0 0, .pointer (some ⟨w.heap.size, 0, none⟩), .slice a0 l0 c0, undef, .slice (some ⟨W.heap.size + 1, 0, none⟩) 0 0, .pointer (some ⟨w.heap.size, 1, none⟩), .slice a1 l1 c1, undef, .pointer (some ⟨w.heap.size, 2, none⟩), .int .u32 (ms : Nat), undef], defers := [] }) (l' := #[true, true, true, false, true, true, true, false, true, true, false, false]) (by kernel_rfl) (by kernel_rfl) ?_
      refine held_oneN (i := 3) (by kernel_rfl) (wpOp_step rfl (fun K' hK' => ?_))
      refine step_appN rfl (.tmp 3) (.tmp 5) rfl rfl W.heap.size (.slice (some ⟨W.heap.size, 0, none⟩) 0 0) (by simp [Act.eval]) (ownNa W) a0 l0 c0 P0 (by simp [Act.eval]) (q0.below (belN2 W)) g0 (by simp) ?_
      intro y0 k0 w3 h3
      have B3 : Hid (Below W.heap.size W w3) := (belN2 W).grown h3.out.2.1 (belN2 W).size (fun j hj => ((ownNa W).lt j hj).1)
      refine hK' _ _ ⟨hS _ (B3.out.mono (by omega)), ?_⟩
      refine held_at (a' := { tmps := #[.agg #[.slice a0 l0 c0, .slice a1 l1 c1, .int .u32 (ms : Nat)], .pointer (some ⟨w.heap.size, 0, none⟩), .pointer (some ⟨w.heap.size + 1, 0, none⟩), .slice (some ⟨W.heap.size, 0, none⟩) 0 0, .pointer (some ⟨w.heap.size, 0, none⟩), .slice a0 l0 c0, .slice y0 l0 k0, .slice (some ⟨W.heap.size + 1, 0, none⟩) 0 0, .pointer (some ⟨w.heap.size, 1, none⟩), .slice a1 l1 c1, undef, .pointer (some ⟨w.heap.size, 2, none⟩), .int .u32 (ms : Nat), undef], defers := [] }) (l' := #[true, true, true, true, true, true, true, false, true, true, false, false]) (by kernel_rfl) (by kernel_rfl) ?_
      have O2 : w3.ownsRow W.heap.size 63 5 (.slice (some ⟨W.heap.size + 1, 0, none⟩) 0 0) 0 [] := own_keepP (ownNb W) (fun g hg => h3.out.2.1.block g ((ownNb W).lt g hg).2 (fun e => by simp [Value.ownBlock] at e hg; omega))
      refine held_oneN (i := 7) (by kernel_rfl) (wpOp_step rfl (fun K' hK' => ?_))
      refine step_appN rfl (.tmp 7) (.tmp 9) rfl rfl W.heap.size (.slice (some ⟨W.heap.size + 1, 0, none⟩) 0 0) (by simp [Act.eval]) O2 a1 l1 c1 P1 (by simp [Act.eval]) (q1.below B3.out) g1 (by simp) ?_
      intro y1 k1 w4 hw4
      have B4 : Hid (Below W.heap.size W w4) := B3.out.grown hw4.out.2.1 B3.out.size (fun j hj => (O2.lt j hj).1)
      have O1 : Hid (w4.ownsRow W.heap.size 63 5 (.slice y0 l0 k0) l0 (flP l0 P0)) := own_keepP h3.out.1 (fun g hg => hw4.out.2.1.block g (h3.out.1.lt g hg).2 (fun e => by rcases h3.out.2.2 with s | s <;> rw [s] at hg <;> simp [Value.ownBlock] at e hg <;> omega))
      refine hK' _ _ ⟨hS _ (B4.out.mono (by omega)), ?_⟩
      refine held_at (a' := { tmps := #[.agg #[.slice a0 l0 c0, .slice a1 l1 c1, .int .u32 (ms : Nat)], .pointer (some ⟨w.heap.size, 0, none⟩), .pointer (some ⟨w.heap.size + 1, 0, none⟩), .slice (some ⟨W.heap.size, 0, none⟩) 0 0, .pointer (some ⟨w.heap.size, 0, none⟩), .slice a0 l0 c0, .slice y0 l0 k0, .slice (some ⟨W.heap.size + 1, 0, none⟩) 0 0, .pointer (some ⟨w.heap.size, 1, none⟩), .slice a1 l1 c1, .slice y1 l1 k1, .pointer (some ⟨w.heap.size, 2, none⟩), .int .u32 (ms : Nat), undef], defers := [] }) (l' := #[true, true, true, true, true, true, true, true, true, true, false, false]) (by kernel_rfl) (by kernel_rfl) ?_
      refine wpAnyH_take (i := 10) (v := .agg #[.slice y0 l0 k0, .slice y1 l1 k1, .int .u32 (ms : Nat)]) rfl (by kernel_rfl) (by kernel_rfl) (by kernel_rfl) (fun _ _ _ h => h) (Or.inl ⟨by kernel_rfl, fun w hSw => by go_simp⟩) (hS _ (B4.out.mono (by omega))) ?_
      refine held_at (a' := { tmps := #[.agg #[.slice a0 l0 c0, .slice a1 l1 c1, .int .u32 (ms : Nat)], .pointer (some ⟨w.heap.size, 0, none⟩), .pointer (some ⟨w.heap.size + 1, 0, none⟩), .slice (some ⟨W.heap.size, 0, none⟩) 0 0, .pointer (some ⟨w.heap.size, 0, none⟩), .slice a0 l0 c0, .slice y0 l0 k0, .slice (some ⟨W.heap.size + 1, 0, none⟩) 0 0, .pointer (some ⟨w.heap.size, 1, none⟩), .slice a1 l1 c1, .slice y1 l1 k1, .pointer (some ⟨w.heap.size, 2, none⟩), .int .u32 (ms : Nat), .agg #[.slice y0 l0 k0, .slice y1 l1 k1, .int .u32 (ms : Nat)]], defers := [] }) (l' := #[true, true, true, true, true, true, true, true, true, true, true, false]) (by kernel_rfl) (by kernel_rfl) ?_
      have HF := netfinO (ms := ms) B4.out HZ.out hlt O1.out hw4.out.1
      obtain ⟨z0, z1, z2, zf⟩ := netcells B4.out HZ.out
      refine held_skip (i := 11) (((w4.setCell ⟨w.heap.size + 1, 0, none⟩ (.slice y0 l0 k0)).setCell ⟨w.heap.size + 1, 1, none⟩ (.slice y1 l1 k1)).setCell ⟨w.heap.size + 1, 2, none⟩ (.int .u32 (ms : Nat))) (by kernel_rfl) rfl (by kernel_rfl) (by go_simp) (hS _ HF.1) ?_
      refine held_at (a' := { tmps := #[.agg #[.slice a0 l0 c0, .slice a1 l1 c1, .int .u32 (ms : Nat)], .pointer (some ⟨w.heap.size, 0, none⟩), .pointer (some ⟨w.heap.size + 1, 0, none⟩), .slice (some ⟨W.heap.size, 0, none⟩) 0 0, .pointer (some ⟨w.heap.size, 0, none⟩), .slice a0 l0 c0, .slice y0 l0 k0, .slice (some ⟨W.heap.size + 1, 0, none⟩) 0 0, .pointer (some ⟨w.heap.size, 1, none⟩), .slice a1 l1 c1, .slice y1 l1 k1, .pointer (some ⟨w.heap.size, 2, none⟩), .int .u32 (ms : Nat), .agg #[.slice y0 l0 k0, .slice y1 l1 k1, .int .u32 (ms : Nat)]], defers := [] }) (l' := #[true, true, true, true, true, true, true, true, true, true, true, true]) (by kernel_rfl) (by kernel_rfl) ?_
      refine wpAnyH_done (by kernel_rfl) ?_ _
      have HR : Hid (_) := HF.2
      have rr0 := cell_of_row _ _ 0 _ _ _ HF.2.1
      have rr1 := cell_of_row _ _ 1 _ _ _ HF.2.1
      have rr2 := cell_of_row _ _ 2 _ _ _ HF.2.1
      generalize ((w4.setCell ⟨w.heap.size + 1, 0, none⟩ (.slice y0 l0 k0)).setCell ⟨w.heap.size + 1, 1, none⟩ (.slice y1 l1 k1)).setCell ⟨w.heap.size + 1, 2, none⟩ (.int .u32 (ms : Nat)) = W9 at *
      clear z0 z1 z2 zf
      go_wp2_with fail
      refine bodyPost_ret (v := .agg #[.slice y0 l0 k0, .slice y1 l1 k1, .int .u32 (ms : Nat)]) (by simp [results, Tryd.results17, go_sem, rr0, rr1, rr2]) rfl ⟨_, _, _, _, rfl, own_baseS HR.out.2.1 (by omega), own_baseS HR.out.2.2.1 (by omega), ?_⟩
      exact HBw.out.trans (HR.out.2.2.2.mono (by omega))
  · refine any_val (.slice (some ⟨W.heap.size, 0, none⟩) 0 0) ((W.alloc (.cells #[] 63)).drew) rfl (by kernel_rfl) (by go_simp) ⟨(hS _ ((belN1 W).mono (by omega))), ?_⟩
    refine held_at (a' := { tmps := #[.agg #[.slice a0 l0 c0, .slice a1 l1 c1, .int .u32 (ms : Nat)], .pointer (some ⟨w.heap.size, 0, none⟩), .pointer (some ⟨w.heap.size + 1, 0, none⟩), undef, .pointer (some ⟨w.heap.size, 0, none⟩), .slice a0 l0 c0, undef, .slice (some ⟨W.heap.size, 0, none⟩) 0 0, .pointer (some ⟨w.heap.size, 1, none⟩), .slice a1 l1 c1, undef, .pointer (some ⟨w.heap.size, 2, none⟩), .int .u32 (ms : Nat), undef], defers := [] }) (l' := #[false, true, true, false, true, true, true, false, true, true, false, false]) (by kernel_rfl) (by kernel_rfl) ?_
    refine held_oneN (i := 0) (by kernel_rfl) (any_val (.slice (some ⟨W.heap.size + 1, 0, none⟩) 0 0) (((W.alloc (.cells #[] 63)).alloc (.cells #[] 63)).drew) rfl (by kernel_rfl) (by go_simp) ⟨(hS _ ((belN2 W).mono (by omega))), ?_⟩)
    refine held_at (a' := { tmps := #[.agg #[.slice a0 l0 c0, .slice a1 l1 c1, .int .u32 (ms : Nat)], .pointer (some ⟨w.heap.size, 0, none⟩), .pointer (some ⟨w.heap.size + 1, 0, none⟩), .slice (some ⟨W.heap.size + 1, 0, none⟩) 0 0, .pointer (some ⟨w.heap.size, 0, none⟩), .slice a0 l0 c0, undef, .slice (some ⟨W.heap.size, 0, none⟩) 0 0, .pointer (some ⟨w.heap.size, 1, none⟩), .slice a1 l1 c1, undef, .pointer (some ⟨w.heap.size, 2, none⟩), .int .u32 (ms : Nat), undef], defers := [] }) (l' := #[true, true, true, false, true, true, true, false, true, true, false, false]) (by kernel_rfl) (by kernel_rfl) ?_
    refine held_oneN (i := 3) (by kernel_rfl) (wpOp_step rfl (fun K' hK' => ?_))
    refine step_appN rfl (.tmp 3) (.tmp 5) rfl rfl W.heap.size (.slice (some ⟨W.heap.size + 1, 0, none⟩) 0 0) (by simp [Act.eval]) (ownNb W) a0 l0 c0 P0 (by simp [Act.eval]) (q0.below (belN2 W)) g0 (by simp) ?_
    intro y0 k0 w3 h3
    have B3 : Hid (Below W.heap.size W w3) := (belN2 W).grown h3.out.2.1 (belN2 W).size (fun j hj => ((ownNb W).lt j hj).1)
    refine hK' _ _ ⟨hS _ (B3.out.mono (by omega)), ?_⟩
    refine held_at (a' := { tmps := #[.agg #[.slice a0 l0 c0, .slice a1 l1 c1, .int .u32 (ms : Nat)], .pointer (some ⟨w.heap.size, 0, none⟩), .pointer (some ⟨w.heap.size + 1, 0, none⟩), .slice (some ⟨W.heap.size + 1, 0, none⟩) 0 0, .pointer (some ⟨w.heap.size, 0, none⟩), .slice a0 l0 c0, .slice y0 l0 k0, .slice (some ⟨W.heap.size, 0, none⟩) 0 0, .pointer (some ⟨w.heap.size, 1, none⟩), .slice a1 l1 c1, undef, .pointer (some ⟨w.heap.size, 2, none⟩), .int .u32 (ms : Nat), undef], defers := [] }) (l' := #[true, true, true, true, true, true, true, false, true, true, false, false]) (by kernel_rfl) (by kernel_rfl) ?_
    have O2 : w3.ownsRow W.heap.size 63 5 (.slice (some ⟨W.heap.size, 0, none⟩) 0 0) 0 [] := own_keepP (ownNa W) (fun g hg => h3.out.2.1.block g ((ownNa W).lt g hg).2 (fun e => by simp [Value.ownBlock] at e hg; omega))
    refine held_oneN (i := 7) (by kernel_rfl) (wpOp_step rfl (fun K' hK' => ?_))
    refine step_appN rfl (.tmp 7) (.tmp 9) rfl rfl W.heap.size (.slice (some ⟨W.heap.size, 0, none⟩) 0 0) (by simp [Act.eval]) O2 a1 l1 c1 P1 (by simp [Act.eval]) (q1.below B3.out) g1 (by simp) ?_
    intro y1 k1 w4 hw4
    have B4 : Hid (Below W.heap.size W w4) := B3.out.grown hw4.out.2.1 B3.out.size (fun j hj => (O2.lt j hj).1)
    have O1 : Hid (w4.ownsRow W.heap.size 63 5 (.slice y0 l0 k0) l0 (flP l0 P0)) := own_keepP h3.out.1 (fun g hg => hw4.out.2.1.block g (h3.out.1.lt g hg).2 (fun e => by rcases h3.out.2.2 with s | s <;> rw [s] at hg <;> simp [Value.ownBlock] at e hg <;> omega))
    refine hK' _ _ ⟨hS _ (B4.out.mono (by omega)), ?_⟩
    refine held_at (a' := { tmps := #[.agg #[.slice a0 l0 c0, .slice a1 l1 c1, .int .u32 (ms : Nat)], .pointer (some ⟨w.heap.size, 0, none⟩), .pointer (some ⟨w.heap.size + 1, 0, none⟩), .slice (some ⟨W.heap.size + 1, 0, none⟩) 0 0, .pointer (some ⟨w.heap.size, 0, none⟩), .slice a0 l0 c0, .slice y0 l0 k0, .slice (some ⟨W.heap.size, 0, none⟩) 0 0, .pointer (some ⟨w.heap.size, 1, none⟩), .slice a1 l1 c1, .slice y1 l1 k1, .pointer (some ⟨w.heap.size, 2, none⟩), .int .u32 (ms : Nat), undef], defers := [] }) (l' := #[true, true, true, true, true, true, true, true, true, true, false, false]) (by kernel_rfl) (by kernel_rfl) ?_
    refine wpAnyH_take (i := 10) (v := .agg #[.slice y0 l0 k0, .slice y1 l1 k1, .int .u32 (ms : Nat)]) rfl (by kernel_rfl) (by kernel_rfl) (by kernel_rfl) (fun _ _ _ h => h) (Or.inl ⟨by kernel_rfl, fun w hSw => by go_simp⟩) (hS _ (B4.out.mono (by omega))) ?_
    refine held_at (a' := { tmps := #[.agg #[.slice a0 l0 c0, .slice a1 l1 c1, .int .u32 (ms : Nat)], .pointer (some ⟨w.heap.size, 0, none⟩), .pointer (some ⟨w.heap.size + 1, 0, none⟩), .slice (some ⟨W.heap.size + 1, 0, none⟩) 0 0, .pointer (some ⟨w.heap.size, 0, none⟩), .slice a0 l0 c0, .slice y0 l0 k0, .slice (some ⟨W.heap.size, 0, none⟩) 0 0, .pointer (some ⟨w.heap.size, 1, none⟩), .slice a1 l1 c1, .slice y1 l1 k1, .pointer (some ⟨w.heap.size, 2, none⟩), .int .u32 (ms : Nat), .agg #[.slice y0 l0 k0, .slice y1 l1 k1, .int .u32 (ms : Nat)]], defers := [] }) (l' := #[true, true, true, true, true, true, true, true, true, true, true, false]) (by kernel_rfl) (by kernel_rfl) ?_
    have HF := netfinO (ms := ms) B4.out HZ.out hlt O1.out hw4.out.1
    obtain ⟨z0, z1, z2, zf⟩ := netcells B4.out HZ.out
    refine held_skip (i := 11) (((w4.setCell ⟨w.heap.size + 1, 0, none⟩ (.slice y0 l0 k0)).setCell ⟨w.heap.size + 1, 1, none⟩ (.slice y1 l1 k1)).setCell ⟨w.heap.size + 1, 2, none⟩ (.int .u32 (ms : Nat))) (by kernel_rfl) rfl (by kernel_rfl) (by go_simp) (hS _ HF.1) ?_
    refine held_at (a' := { tmps := #[.agg #[.slice a0 l0 c0, .slice a1 l1 c1, .int .u32 (ms : Nat)], .pointer (some ⟨w.heap.size, 0, none⟩), .pointer (some ⟨w.heap.size + 1, 0, none⟩), .slice (some ⟨W.heap.size + 1, 0, none⟩) 0 0, .pointer (some ⟨w.heap.size, 0, none⟩), .slice a0 l0 c0, .slice y0 l0 k0, .slice (some ⟨W.heap.size, 0, none⟩) 0 0, .pointer (some ⟨w.heap.size, 1, none⟩), .slice a1 l1 c1, .slice y1 l1 k1, .pointer (some ⟨w.heap.size, 2, none⟩), .int .u32 (ms : Nat), .agg #[.slice y0 l0 k0, .slice y1 l1 k1, .int .u32 (ms : Nat)]], defers := [] }) (l' := #[true, true, true, true, true, true, true, true, true, true, true, true]) (by kernel_rfl) (by kernel_rfl) ?_
    refine wpAnyH_done (by kernel_rfl) ?_ _
    have HR : Hid (_) := HF.2
    have rr0 := cell_of_row _ _ 0 _ _ _ HF.2.1
    have rr1 := cell_of_row _ _ 1 _ _ _ HF.2.1
    have rr2 := cell_of_row _ _ 2 _ _ _ HF.2.1
    generalize ((w4.setCell ⟨w.heap.size + 1, 0, none⟩ (.slice y0 l0 k0)).setCell ⟨w.heap.size + 1, 1, none⟩ (.slice y1 l1 k1)).setCell ⟨w.heap.size + 1, 2, none⟩ (.int .u32 (ms : Nat)) = W9 at *
    clear z0 z1 z2 zf
    go_wp2_with fail
    refine bodyPost_ret (v := .agg #[.slice y0 l0 k0, .slice y1 l1 k1, .int .u32 (ms : Nat)]) (by simp [results, Tryd.results17, go_sem, rr0, rr1, rr2]) rfl ⟨_, _, _, _, rfl, own_baseS HR.out.2.1 (by omega), own_baseS HR.out.2.2.1 (by omega), ?_⟩
    exact HBw.out.trans (HR.out.2.2.2.mono (by omega))
end Go.Proofs.YtiikebaehoobnaaDoor
