/- A net with its own lists (Nc.lean over Gpd). -/
import Derived.Test.YtnmnjcjfgbpkaaaDoorJPck
namespace Go.Proofs.YtnmnjcjfgbpkaaaDoor
set_option maxRecDepth 100000
open Go.RowKit Go.Maps Go.Sort
set_option maxRecDepth 100000
/-- Two operations that may come up. -/
theorem held_forkN {P : Program} {md : Region.Mode} {ops : Array Oper} {Q : Exit → Act → World → Prop} {S : World → Prop} {fuel : Nat} {l : Array Bool} {a : Act} {w : World} {i j : Nat} (hr : Region.ready md ops l = [i, j]) (hi : wpOp P ops Q i (fun a' w' => S w' ∧ wpAnyH P md ops Q S fuel (l.setIfInBounds i true) a' w') a w) (hj : wpOp P ops Q j (fun a' w' => S w' ∧ wpAnyH P md ops Q S fuel (l.setIfInBounds j true) a' w') a w) : wpAnyH P md ops Q S (fuel + 1) l a w :=
  wpAnyH_all hr (by simp) (fun k hk => by
    rcases List.mem_cons.1 hk with rfl | hk
    · exact hi
    · obtain rfl := List.mem_singleton.1 hk
      exact hj)
theorem held_oneN {P : Program} {md : Region.Mode} {ops : Array Oper} {Q : Exit → Act → World → Prop} {S : World → Prop} {fuel : Nat} {l : Array Bool} {a : Act} {w : World} {i : Nat} (hr : Region.ready md ops l = [i]) (hi : wpOp P ops Q i (fun a' w' => S w' ∧ wpAnyH P md ops Q S fuel (l.setIfInBounds i true) a' w') a w) : wpAnyH P md ops Q S (fuel + 1) l a w :=
  wpAnyH_all hr (by simp) (fun k hk => by
    obtain rfl := List.mem_singleton.1 hk
    exact hi)
theorem flP_one (k : Nat) (P : Nat → Pg) : ∀ u ∈ flP k P, u.oneCell' = true := by
  intro u hu
  unfold flP at hu
  obtain ⟨i, _, hi⟩ := List.mem_flatMap.1 hu
  simp [pgL] at hi
  rcases hi with rfl | rfl | rfl | rfl | rfl <;> rfl
theorem PRow.src {w : World} {l : Nat} {P : Nat → Pg} {x : Addr} (h : PRow w (some x) l P) : ∀ j u, (flP l P)[j]? = some u → w.cell? (x.add j) = some u := fun j u hu => by
  have hj : j < l * 5 := by
    have := (List.getElem?_eq_some_iff.1 hu).1
    rwa [flP_len] at this
  obtain ⟨q, off, e, c0, c1, c2, c3, c4⟩ := h (j / 5) (by omega)
  cases e
  have e : (Addr.add ⟨q, off, none⟩ j) = ⟨q, off + j / 5 * 5 + j % 5, none⟩ := by
    have d : off + j / 5 * 5 + j % 5 = off + j := by omega
    rw [d]
    unfold Addr.add
    split
    · next z => rw [z, Nat.add_zero]
    · rfl
  rw [e]
  have g := flP_get l P (j / 5) (j % 5) (by omega) (by omega)
  have ej : j / 5 * 5 + j % 5 = j := by omega
  rw [ej, hu] at g
  have h5 : j % 5 < 5 := by omega
  generalize j % 5 = r at g h5 ⊢
  generalize j / 5 = i at *
  have : r = 0 ∨ r = 1 ∨ r = 2 ∨ r = 3 ∨ r = 4 := by omega
  rcases this with rfl | rfl | rfl | rfl | rfl
  all_goals simp [pgL] at g
  all_goals subst g
  · exact c0
  · exact c1
  · exact c2
  · exact c3
  · exact c4
theorem step_appN {ops : Array Oper} {o : Oper} {a : Act} {w : World} {K : Act → World → Prop} {Q : Exit → Act → World → Prop} {E : Prop}
    (hg : o.guard = none) (s x : Operand) (hop : o.op = Op.call { callee := Callee.builtin Builtin.append, args := #[s, x], argTypes := #[23, 23] }) (hty : o.type = 23)
    (B : Nat) (v : Value) (hs : a.eval s = v) (h1 : w.ownsRow B 50 5 v 0 []) (ao : Option Addr) (l c : Nat) (P : Nat → Pg) (hx : a.eval x = .slice ao l c) (hr : PRow w ao l P) (hb : l * 40 ≤ 140737488351232 ∧ (ao = none → l = 0 ∧ c = 0)) (hv : v ≠ .slice none 0 0)
    (hK : ∀ a' c' w', Hid (w'.ownsRow B 50 5 (.slice a' l c') l (flP l P) ∧ w.grownBy w' v.ownBlock ∧ ((Value.slice a' l c').ownBlock = v.ownBlock ∨ (Value.slice a' l c').ownBlock = some w.heap.size)) → K (a.put o.dst (.slice a' l c')) w') :
    if Region.wanted o (yielded ops a.tmps) = true then Oper.wp Tryd.prog o a w K Q else E := by
  have hw : Region.wanted o (yielded ops a.tmps) = true := by simp [Region.wanted, hg]
  rw [if_pos hw]
  obtain ⟨i0, hI, hz0, hz1, hz2⟩ := info_parts info_par
  obtain ⟨hb1, hnil⟩ := hb
  have hB : B ≤ w.heap.size := by
    rcases h1.2 with ⟨e, _⟩ | ⟨g, cap, cur, e, hg, hgg, _⟩
    · exact absurd e hv
    · have := (Array.getElem?_eq_some_iff.1 hgg).1
      omega
  have fin : ∀ v' w', w'.ownsRow B 50 5 v' l (flP l P) → w.grownBy w' v.ownBlock → (v'.ownBlock = v.ownBlock ∨ v'.ownBlock = some w.heap.size) → K (a.put o.dst v') w' := by
    intro v' w' k1 k2 k3
    obtain ⟨a', c', rfl⟩ : ∃ a' c', v' = .slice a' l c' := by
      rcases k1.2 with ⟨e, e0⟩ | ⟨g, cp, cur, e, _⟩
      · exact ⟨none, 0, by rw [e, e0]⟩
      · exact ⟨_, _, e⟩
    exact hK a' c' w' ⟨k1, k2, k3⟩
  have hrun : ∃ v' w', (Builtin.append_ #[23, 23] 23 #[v, .slice ao l c]).run Tryd.prog w = .ok v' w' ∧ K (a.put o.dst v') w' := by
    cases ao with
    | none =>
      obtain ⟨rfl, rfl⟩ := hnil rfl
      exact ⟨_, _, run_append_owned_none (P := Tryd.prog) (w := w) B 23 23 50 i0 5 Tryd.underlying23 hI v 0 _ h1, fin _ _ h1 ⟨rfl, rfl, rfl, Nat.le_refl _, fun _ _ _ => rfl⟩ (.inl rfl)⟩
    | some ad =>
      obtain ⟨v', w', hr', k1, k2, _, k4⟩ := run_append_own_at (P := Tryd.prog) w B 23 23 50 i0 (.agg #[.int .u32 0, .int .i64 0, .int .i64 0, .int .i64 0, .int .u32 0]) 5 40 Tryd.underlying23 hI hz0 hz1 hz2 rfl (by decide) v 0 [] h1 ad l c (flP l P) (flP_len _ _) (by
        intro j u hu
        by_cases h0 : 0 < l
        · exact hr.src j u hu
        · have := (List.getElem?_eq_some_iff.1 hu).1
          rw [flP_len] at this
          omega) (flP_one _ _) (by unfold maxLen; omega) (by omega) hB
      exact ⟨v', w', hr', fin v' w' (by simpa using k1) k2 k4⟩
  obtain ⟨v', w', hr', hk⟩ := hrun
  unfold Oper.wp execOp
  simp only [hop, hty, resolve, invoke, builtin, Sem.run_bind, Sem.run_pure, Result.andThen_ok, List.map_toArray, List.map_cons, List.map_nil, hs, hx, hr']
  exact hk
theorem belN1 (W : World) : Below W.heap.size W (W.alloc (.cells #[] 50)).drew := Below.drew (belowG (Below.refl _ _) _)
theorem belN2 (W : World) : Below W.heap.size W ((W.alloc (.cells #[] 50)).alloc (.cells #[] 50)).drew := Below.drew (belowG (belowG (Below.refl _ _) _) _)
theorem ownN (w : World) (B : Nat) (h : B ≤ w.heap.size) : (w.alloc (.cells #[] 50)).ownsRow B 50 5 (.slice (some ⟨w.heap.size, 0, none⟩) 0 0) 0 [] := World.ownsRow_made w #[] 0 h (Nat.zero_le _) rfl
theorem ownN0 (W : World) : ((W.alloc (.cells #[] 50)).drew).ownsRow W.heap.size 50 5 (.slice (some ⟨W.heap.size, 0, none⟩) 0 0) 0 [] := ownN W _ (Nat.le_refl _)
theorem ownNa (W : World) : (((W.alloc (.cells #[] 50)).alloc (.cells #[] 50)).drew).ownsRow W.heap.size 50 5 (.slice (some ⟨W.heap.size, 0, none⟩) 0 0) 0 [] := own_belowP (ownN W _ (Nat.le_refl _)) (Below.drew (belowG (Below.refl _ _) _))
theorem ownNb (W : World) : (((W.alloc (.cells #[] 50)).alloc (.cells #[] 50)).drew).ownsRow W.heap.size 50 5 (.slice (some ⟨W.heap.size + 1, 0, none⟩) 0 0) 0 [] := by
  have := ownN (W.alloc (.cells #[] 50)) W.heap.size (by simp)
  simp only [World.size_alloc] at this
  exact this
theorem netfin {w W w4 : World} {y0 y1 : Option Addr} {l0 k0 l1 k1 ms : Nat} {P0 P1 : Nat → Pg} (b4 : Below W.heap.size W w4) (hz : W.heap[w.heap.size + 1]? = some (.cells #[.slice none 0 0, .slice none 0 0, .int .u32 0] 26 (0, 0))) (hlt : w.heap.size + 2 ≤ W.heap.size) (o1 : w4.ownsRow W.heap.size 50 5 (.slice y0 l0 k0) l0 (flP l0 P0)) (o2 : w4.ownsRow W.heap.size 50 5 (.slice y1 l1 k1) l1 (flP l1 P1)) :
    Below (w.heap.size + 1) W (((w4.setCell ⟨w.heap.size + 1, 0, none⟩ (.slice y0 l0 k0)).setCell ⟨w.heap.size + 1, 1, none⟩ (.slice y1 l1 k1)).setCell ⟨w.heap.size + 1, 2, none⟩ (.int .u32 (ms : Nat))) ∧ (((w4.setCell ⟨w.heap.size + 1, 0, none⟩ (.slice y0 l0 k0)).setCell ⟨w.heap.size + 1, 1, none⟩ (.slice y1 l1 k1)).setCell ⟨w.heap.size + 1, 2, none⟩ (.int .u32 (ms : Nat))).heap[w.heap.size + 1]? = some (.cells #[.slice y0 l0 k0, .slice y1 l1 k1, .int .u32 (ms : Nat)] 26 (0, 0)) ∧ PRow (((w4.setCell ⟨w.heap.size + 1, 0, none⟩ (.slice y0 l0 k0)).setCell ⟨w.heap.size + 1, 1, none⟩ (.slice y1 l1 k1)).setCell ⟨w.heap.size + 1, 2, none⟩ (.int .u32 (ms : Nat))) y0 l0 P0 ∧ PRow (((w4.setCell ⟨w.heap.size + 1, 0, none⟩ (.slice y0 l0 k0)).setCell ⟨w.heap.size + 1, 1, none⟩ (.slice y1 l1 k1)).setCell ⟨w.heap.size + 1, 2, none⟩ (.int .u32 (ms : Nat))) y1 l1 P1 ∧ Below (w.heap.size + 1) W (((w4.setCell ⟨w.heap.size + 1, 0, none⟩ (.slice y0 l0 k0)).setCell ⟨w.heap.size + 1, 1, none⟩ (.slice y1 l1 k1)).setCell ⟨w.heap.size + 1, 2, none⟩ (.int .u32 (ms : Nat))) := by
  have o : Off [w.heap.size + 1] w4 (((w4.setCell ⟨w.heap.size + 1, 0, none⟩ (.slice y0 l0 k0)).setCell ⟨w.heap.size + 1, 1, none⟩ (.slice y1 l1 k1)).setCell ⟨w.heap.size + 1, 2, none⟩ (.int .u32 (ms : Nat))) := ((Off.setCell _ _ _ _).trans (Off.setCell _ _ _ _)).trans (Off.setCell _ _ _ _)
  have h4 := (b4.block (w.heap.size + 1) (by omega)).trans hz
  have bb := o.below (b4.mono (B' := w.heap.size + 1) (by omega)) (fun k hk => by simp at hk; omega) (by have := b4.size; omega)
  have kp : ∀ {y : Option Addr} {l k : Nat} {P : Nat → Pg}, w4.ownsRow W.heap.size 50 5 (.slice y l k) l (flP l P) → PRow (((w4.setCell ⟨w.heap.size + 1, 0, none⟩ (.slice y0 l0 k0)).setCell ⟨w.heap.size + 1, 1, none⟩ (.slice y1 l1 k1)).setCell ⟨w.heap.size + 1, 2, none⟩ (.int .u32 (ms : Nat))) y l P := fun h => PRow.of_own (own_keepP h (fun g hg => o.block g (h.lt g hg).2 (by have := (h.lt g hg).1; simp; omega)))
  exact ⟨bb, heap_setCell_same _ _ _ _ _ _ (heap_setCell_same _ _ _ _ _ _ (heap_setCell_same _ _ _ _ _ _ h4)), kp o1, kp o2, bb⟩
theorem netcells {w W w4 : World} (b4 : Below W.heap.size W w4) (hz : W.heap[w.heap.size + 1]? = some (.cells #[.slice none 0 0, .slice none 0 0, .int .u32 0] 26 (0, 0))) : w4.cell? ⟨w.heap.size + 1, 0, none⟩ = some (.slice none 0 0) ∧ w4.cell? ⟨w.heap.size + 1, 1, none⟩ = some (.slice none 0 0) ∧ w4.cell? ⟨w.heap.size + 1, 2, none⟩ = some (.int .u32 0) ∧ ∀ k, w4.frozen? ⟨w.heap.size + 1, k, none⟩ = false := by
  have h4 := (b4.block (w.heap.size + 1) (Array.getElem?_eq_some_iff.1 hz).1).trans hz
  exact ⟨cell_of_row w4 _ 0 _ _ _ h4, cell_of_row w4 _ 1 _ _ _ h4, cell_of_row w4 _ 2 _ _ _ h4, fun k => frozen_of_row w4 _ k _ _ h4⟩
set_option maxHeartbeats 2000000 in
theorem ncopied (a0 : Option Addr) (l0 c0 : Nat) (P0 : Nat → Pg) (a1 : Option Addr) (l1 c1 : Nat) (P1 : Nat → Pg) (ms : Nat) (w : World) (h0 : PRow w a0 l0 P0) (h1 : PRow w a1 l1 P1) (g0 : l0 * 40 ≤ 140737488351232 ∧ (a0 = none → l0 = 0 ∧ c0 = 0)) (g1 : l1 * 40 ≤ 140737488351232 ∧ (a1 = none → l1 = 0 ∧ c1 = 0)) :
    Calls Tryd.prog 13 #[.agg #[.slice a0 l0 c0, .slice a1 l1 c1, .int .u32 (ms : Nat)]] w fun r w' => ∃ y0 k0 y1 k1, r = .returned (.agg #[.slice y0 l0 k0, .slice y1 l1 k1, .int .u32 (ms : Nat)]) ∧ PRow w' y0 l0 P0 ∧ PRow w' y1 l1 P1 ∧ Below w.heap.size w w' := by
  obtain ⟨W, hW⟩ : ∃ W : World, (w.alloc (.cells #[.slice a0 l0 c0, .slice a1 l1 c1, .int .u32 (ms : Nat)] 26)).alloc (.cells #[.slice none 0 0, .slice none 0 0, .int .u32 0] 26) = W := ⟨_, rfl⟩
  have bW : Below w.heap.size w W := by rw [← hW]; exact belowG (belowG (Below.refl _ _) _) _
  have hlt : w.heap.size + 2 ≤ W.heap.size := by rw [← hW]; simp
  have eB : W.heap[w.heap.size]? = some (.cells #[.slice a0 l0 c0, .slice a1 l1 c1, .int .u32 (ms : Nat)] 26 (0, 0)) := by
    rw [← hW]
    exact ((belowG (Below.refl _ (w.alloc (.cells #[.slice a0 l0 c0, .slice a1 l1 c1, .int .u32 (ms : Nat)] 26))) _).block w.heap.size (by simp)).trans (heap_alloc_new w _)
  have HZ : Hid (W.heap[w.heap.size + 1]? = some (.cells #[.slice none 0 0, .slice none 0 0, .int .u32 0] 26 (0, 0))) := by
    rw [← hW]
    have := heap_alloc_new (w.alloc (.cells #[.slice a0 l0 c0, .slice a1 l1 c1, .int .u32 (ms : Nat)] 26)) (.cells #[.slice none 0 0, .slice none 0 0, .int .u32 0] 26)
    simp only [World.size_alloc] at this
    exact this
  have hS : ∀ wx, Below (w.heap.size + 1) W wx → wx.cell? ⟨w.heap.size, 0, none⟩ = some (.slice a0 l0 c0) ∧ wx.cell? ⟨w.heap.size, 1, none⟩ = some (.slice a1 l1 c1) ∧ wx.cell? ⟨w.heap.size, 2, none⟩ = some (.int .u32 (ms : Nat)) := fun wx bx => by
    have h := (bx.block w.heap.size (by omega)).trans eB
    exact ⟨cell_of_row wx _ 0 _ _ _ h, cell_of_row wx _ 1 _ _ _ h, cell_of_row wx _ 2 _ _ _ h⟩
  obtain ⟨r0, r1, r2⟩ := hS W (Below.refl _ _)
  have q0 := h0.below bW
  have q1 := h1.below bW
  have HBw : Hid (_) := bW
  clear h0 h1 bW eB
  go_enter Tryd.func13, Tryd.ntmps13
  go_wp2_with fail
  have HB0 : Hid (Below (w.heap.size + 1) W W.drew) := Below.drew (Below.refl _ _)
  refine wp_region_held_drew (S := fun wx => wx.cell? ⟨w.heap.size, 0, none⟩ = some (.slice a0 l0 c0) ∧ wx.cell? ⟨w.heap.size, 1, none⟩ = some (.slice a1 l1 c1) ∧ wx.cell? ⟨w.heap.size, 2, none⟩ = some (.int .u32 (ms : Nat))) (by kernel_rfl) (hS _ HB0.out) (fun _ => ?_)
  refine held_at (a' := { tmps := #[.agg #[.slice a0 l0 c0, .slice a1 l1 c1, .int .u32 (ms : Nat)], .pointer (some ⟨w.heap.size, 0, none⟩), .pointer (some ⟨w.heap.size + 1, 0, none⟩), undef, undef, undef, undef, undef, undef, undef, undef, undef, undef, undef], defers := [] }) (l' := #[false, false, false, false, false, false, false, false, false, false, false, false]) (by kernel_rfl) (by kernel_rfl) ?_
  refine wpAnyH_take (i := 1) (v := .pointer (some ⟨w.heap.size, 0, none⟩)) rfl (by kernel_rfl) (by kernel_rfl) (by kernel_rfl) (fun _ _ _ h => h) (Or.inl ⟨by kernel_rfl, fun w hSw => by go_simp⟩) (hS _ HB0.out) ?_
  refine wpAnyH_take (i := 2) (v := .slice a0 l0 c0) rfl (by kernel_rfl) (by kernel_rfl) (by kernel_rfl) (fun _ _ _ h => h) (Or.inl ⟨by kernel_rfl, fun w hSw => by go_simp⟩) (hS _ HB0.out) ?_
  refine wpAnyH_take (i := 5) (v := .pointer (some ⟨w.heap.size, 1, none⟩)) rfl (by kernel_rfl) (by kernel_rfl) (by kernel_rfl) (fun _ _ _ h => h) (Or.inl ⟨by kernel_rfl, fun w hSw => by go_simp⟩) (hS _ HB0.out) ?_
  refine wpAnyH_take (i := 6) (v := .slice a1 l1 c1) rfl (by kernel_rfl) (by kernel_rfl) (by kernel_rfl) (fun _ _ _ h => h) (Or.inl ⟨by kernel_rfl, fun w hSw => by go_simp⟩) (hS _ HB0.out) ?_
  refine wpAnyH_take (i := 8) (v := .pointer (some ⟨w.heap.size, 2, none⟩)) rfl (by kernel_rfl) (by kernel_rfl) (by kernel_rfl) (fun _ _ _ h => h) (Or.inl ⟨by kernel_rfl, fun w hSw => by go_simp⟩) (hS _ HB0.out) ?_
  refine wpAnyH_take (i := 9) (v := .int .u32 (ms : Nat)) rfl (by kernel_rfl) (by kernel_rfl) (by kernel_rfl) (fun _ _ _ h => h) (Or.inl ⟨by kernel_rfl, fun w hSw => by go_simp⟩) (hS _ HB0.out) ?_
  refine held_at (a' := { tmps := #[.agg #[.slice a0 l0 c0, .slice a1 l1 c1, .int .u32 (ms : Nat)], .pointer (some ⟨w.heap.size, 0, none⟩), .pointer (some ⟨w.heap.size + 1, 0, none⟩), undef, .pointer (some ⟨w.heap.size, 0, none⟩), .slice a0 l0 c0, undef, undef, .pointer (some ⟨w.heap.size, 1, none⟩), .slice a1 l1 c1, undef, .pointer (some ⟨w.heap.size, 2, none⟩), .int .u32 (ms : Nat), undef], defers := [] }) (l' := #[false, true, true, false, false, true, true, false, true, true, false, false]) (by kernel_rfl) (by kernel_rfl) ?_
  refine held_forkN (i := 0) (j := 4) (by kernel_rfl) ?_ ?_
  · refine any_val (.slice (some ⟨W.heap.size, 0, none⟩) 0 0) ((W.alloc (.cells #[] 50)).drew) rfl (by kernel_rfl) (by go_simp) ⟨(hS _ ((belN1 W).mono (by omega))), ?_⟩
    refine held_at (a' := { tmps := #[.agg #[.slice a0 l0 c0, .slice a1 l1 c1, .int .u32 (ms : Nat)], .pointer (some ⟨w.heap.size, 0, none⟩), .pointer (some ⟨w.heap.size + 1, 0, none⟩), .slice (some ⟨W.heap.size, 0, none⟩) 0 0, .pointer (some ⟨w.heap.size, 0, none⟩), .slice a0 l0 c0, undef, undef, .pointer (some ⟨w.heap.size, 1, none⟩), .slice a1 l1 c1, undef, .pointer (some ⟨w.heap.size, 2, none⟩), .int .u32 (ms : Nat), undef], defers := [] }) (l' := #[true, true, true, false, false, true, true, false, true, true, false, false]) (by kernel_rfl) (by kernel_rfl) ?_
    refine held_forkN (i := 3) (j := 4) (by kernel_rfl) ?_ ?_
    · refine wpOp_step rfl (fun K' hK' => ?_)
      refine step_appN rfl (.tmp 3) (.tmp 5) rfl rfl W.heap.size (.slice (some ⟨W.heap.size, 0, none⟩) 0 0) (by simp [Act.eval]) (ownN0 W) a0 l0 c0 P0 (by simp [Act.eval]) (q0.below (belN1 W)) g0 (by simp) ?_
      intro y0 k0 w3 h3
      have B3 : Hid (Below W.heap.size W w3) := (belN1 W).grown h3.out.2.1 (belN1 W).size (fun j hj => ((ownN0 W).lt j hj).1)
      refine hK' _ _ ⟨hS _ (B3.out.mono (by omega)), ?_⟩
      refine held_at (a' := { tmps := #[.agg #[.slice a0 l0 c0, .slice a1 l1 c1, .int .u32 (ms : Nat)], .pointer (some ⟨w.heap.size, 0, none⟩), .pointer (some ⟨w.heap.size + 1, 0, none⟩), .slice (some ⟨W.heap.size, 0, none⟩) 0 0, .pointer (some ⟨w.heap.size, 0, none⟩), .slice a0 l0 c0, .slice y0 l0 k0, undef, .pointer (some ⟨w.heap.size, 1, none⟩), .slice a1 l1 c1, undef, .pointer (some ⟨w.heap.size, 2, none⟩), .int .u32 (ms : Nat), undef], defers := [] }) (l' := #[true, true, true, true, false, true, true, false, true, true, false, false]) (by kernel_rfl) (by kernel_rfl) ?_
      have B3a : Hid (Below W.heap.size W (w3.alloc (.cells #[] 50))) := belowG B3.out _
      refine held_oneN (i := 4) (by kernel_rfl) (any_val (.slice (some ⟨w3.heap.size, 0, none⟩) 0 0) (w3.alloc (.cells #[] 50)) rfl (by kernel_rfl) (by go_simp) ⟨(hS _ (B3a.out.mono (by omega))), ?_⟩)
      refine held_at (a' := { tmps := #[.agg #[.slice a0 l0 c0, .slice a1 l1 c1, .int .u32 (ms : Nat)], .pointer (some ⟨w.heap.size, 0, none⟩), .pointer (some ⟨w.heap.size + 1, 0, none⟩), .slice (some ⟨W.heap.size, 0, none⟩) 0 0, .pointer (some ⟨w.heap.size, 0, none⟩), .slice a0 l0 c0, .slice y0 l0 k0, .slice (some ⟨w3.heap.size, 0, none⟩) 0 0, .pointer (some ⟨w.heap.size, 1, none⟩), .slice a1 l1 c1, undef, .pointer (some ⟨w.heap.size, 2, none⟩), .int .u32 (ms : Nat), undef], defers := [] }) (l' := #[true, true, true, true, true, true, true, false, true, true, false, false]) (by kernel_rfl) (by kernel_rfl) ?_
      refine held_oneN (i := 7) (by kernel_rfl) (wpOp_step rfl (fun K' hK' => ?_))
      refine step_appN rfl (.tmp 7) (.tmp 9) rfl rfl W.heap.size (.slice (some ⟨w3.heap.size, 0, none⟩) 0 0) (by simp [Act.eval]) (ownN w3 W.heap.size B3.out.size) a1 l1 c1 P1 (by simp [Act.eval]) (q1.below B3a.out) g1 (by simp) ?_
      intro y1 k1 w4 hw4
      have B4 : Hid (Below W.heap.size W w4) := B3a.out.grown hw4.out.2.1 B3a.out.size (fun j hj => ((ownN w3 W.heap.size B3.out.size).lt j hj).1)
      have O1 : Hid (w4.ownsRow W.heap.size 50 5 (.slice y0 l0 k0) l0 (flP l0 P0)) := own_keepP (own_belowP h3.out.1 (belowG (Below.refl _ _) (.cells #[] 50))) (fun g hg => hw4.out.2.1.block g (by have := (h3.out.1.lt g hg).2; simp; omega) (fun e => by have := (h3.out.1.lt g hg).2; simp [Value.ownBlock] at e; omega))
      refine hK' _ _ ⟨hS _ (B4.out.mono (by omega)), ?_⟩
      refine held_at (a' := { tmps := #[.agg #[.slice a0 l0 c0, .slice a1 l1 c1, .int .u32 (ms : Nat)], .pointer (some ⟨w.heap.size, 0, none⟩), .pointer (some ⟨w.heap.size + 1, 0, none⟩), .slice (some ⟨W.heap.size, 0, none⟩) 0 0, .pointer (some ⟨w.heap.size, 0, none⟩), .slice a0 l0 c0, .slice y0 l0 k0, .slice (some ⟨w3.heap.size, 0, none⟩) 0 0, .pointer (some ⟨w.heap.size, 1, none⟩), .slice a1 l1 c1, .slice y1 l1 k1, .pointer (some ⟨w.heap.size, 2, none⟩), .int .u32 (ms : Nat), undef], defers := [] }) (l' := #[true, true, true, true, true, true, true, true, true, true, false, false]) (by kernel_rfl) (by kernel_rfl) ?_
      refine wpAnyH_take (i := 10) (v := .agg #[.slice y0 l0 k0, .slice y1 l1 k1, .int .u32 (ms : Nat)]) rfl (by kernel_rfl) (by kernel_rfl) (by kernel_rfl) (fun _ _ _ h => h) (Or.inl ⟨by kernel_rfl, fun w hSw => by go_simp⟩) (hS _ (B4.out.mono (by omega))) ?_
      refine held_at (a' := { tmps := #[.agg #[.slice a0 l0 c0, .slice a1 l1 c1, .int .u32 (ms : Nat)], .pointer (some ⟨w.heap.size, 0, none⟩), .pointer (some ⟨w.heap.size + 1, 0, none⟩), .slice (some ⟨W.heap.size, 0, none⟩) 0 0, .pointer (some ⟨w.heap.size, 0, none⟩), .slice a0 l0 c0, .slice y0 l0 k0, .slice (some ⟨w3.heap.size, 0, none⟩) 0 0, .pointer (some ⟨w.heap.size, 1, none⟩), .slice a1 l1 c1, .slice y1 l1 k1, .pointer (some ⟨w.heap.size, 2, none⟩), .int .u32 (ms : Nat), .agg #[.slice y0 l0 k0, .slice y1 l1 k1, .int .u32 (ms : Nat)]], defers := [] }) (l' := #[true, true, true, true, true, true, true, true, true, true, true, false]) (by kernel_rfl) (by kernel_rfl) ?_
      have HF := netfin (ms := ms) B4.out HZ.out hlt O1.out hw4.out.1
      obtain ⟨z0, z1, z2, zf⟩ := netcells B4.out HZ.out
      refine held_skip (i := 11) (((w4.setCell ⟨w.heap.size + 1, 0, none⟩ (.slice y0 l0 k0)).setCell ⟨w.heap.size + 1, 1, none⟩ (.slice y1 l1 k1)).setCell ⟨w.heap.size + 1, 2, none⟩ (.int .u32 (ms : Nat))) (by kernel_rfl) rfl (by kernel_rfl) (by go_simp) (hS _ HF.1) ?_
      refine held_at (a' := { tmps := #[.agg #[.slice a0 l0 c0, .slice a1 l1 c1, .int .u32 (ms : Nat)], .pointer (some ⟨w.heap.size, 0, none⟩), .pointer (some ⟨w.heap.size + 1, 0, none⟩), .slice (some ⟨W.heap.size, 0, none⟩) 0 0, .pointer (some ⟨w.heap.size, 0, none⟩), .slice a0 l0 c0, .slice y0 l0 k0, .slice (some ⟨w3.heap.size, 0, none⟩) 0 0, .pointer (some ⟨w.heap.size, 1, none⟩), .slice a1 l1 c1, .slice y1 l1 k1, .pointer (some ⟨w.heap.size, 2, none⟩), .int .u32 (ms : Nat), .agg #[.slice y0 l0 k0, .slice y1 l1 k1, .int .u32 (ms : Nat)]], defers := [] }) (l' := #[true, true, true, true, true, true, true, true, true, true, true, true]) (by kernel_rfl) (by kernel_rfl) ?_
      refine wpAnyH_done (by kernel_rfl) ?_ _
      have HR : Hid (_) := HF.2
      have rr0 := cell_of_row _ _ 0 _ _ _ HF.2.1
      have rr1 := cell_of_row _ _ 1 _ _ _ HF.2.1
      have rr2 := cell_of_row _ _ 2 _ _ _ HF.2.1
      generalize ((w4.setCell ⟨w.heap.size + 1, 0, none⟩ (.slice y0 l0 k0)).setCell ⟨w.heap.size + 1, 1, none⟩ (.slice y1 l1 k1)).setCell ⟨w.heap.size + 1, 2, none⟩ (.int .u32 (ms : Nat)) = W9 at *
      clear z0 z1 z2 zf
      go_wp2_with fail
      refine bodyPost_ret (v := .agg #[.slice y0 l0 k0, .slice y1 l1 k1, .int .u32 (ms : Nat)]) (by simp [results, Tryd.results13, go_sem, rr0, rr1, rr2]) rfl ⟨_, _, _, _, rfl, HR.out.2.1, HR.out.2.2.1, ?_⟩
      exact HBw.out.trans (HR.out.2.2.2.mono (by omega))
    · refine any_val (.slice (some ⟨W.heap.size + 1, 0, none⟩) 0 0) (((W.alloc (.cells #[] 50)).alloc (.cells #[] 50)).drew) rfl (by kernel_rfl) (by go_simp) ⟨(hS _ ((belN2 W).mono (by omega))), ?_⟩
      refine held_at (a' := { tmps := #[.agg #[.slice a0 l0 c0, .slice a1 l1 c1, .int .u32 (ms : Nat)], .pointer (some ⟨w.heap.size, 0, none⟩), .pointer (some ⟨w.heap.size + 1, 0, none⟩), .slice (some ⟨W.heap.size, 0, none⟩) 0 0, .pointer (some ⟨w.heap.size, 0, none⟩), .slice a0 l0 c0, undef, .slice (some ⟨W.heap.size + 1, 0, none⟩) 0 0, .pointer (some ⟨w.heap.size, 1, none⟩), .slice a1 l1 c1, undef, .pointer (some ⟨w.heap.size, 2, none⟩), .int .u32 (ms : Nat), undef], defers := [] }) (l' := #[true, true, true, false, true, true, true, false, true, true, false, false]) (by kernel_rfl) (by kernel_rfl) ?_
      refine held_oneN (i := 3) (by kernel_rfl) (wpOp_step rfl (fun K' hK' => ?_))
      refine step_appN rfl (.tmp 3) (.tmp 5) rfl rfl W.heap.size (.slice (some ⟨W.heap.size, 0, none⟩) 0 0) (by simp [Act.eval]) (ownNa W) a0 l0 c0 P0 (by simp [Act.eval]) (q0.below (belN2 W)) g0 (by simp) ?_
      intro y0 k0 w3 h3
      have B3 : Hid (Below W.heap.size W w3) := (belN2 W).grown h3.out.2.1 (belN2 W).size (fun j hj => ((ownNa W).lt j hj).1)
      refine hK' _ _ ⟨hS _ (B3.out.mono (by omega)), ?_⟩
      refine held_at (a' := { tmps := #[.agg #[.slice a0 l0 c0, .slice a1 l1 c1, .int .u32 (ms : Nat)], .pointer (some ⟨w.heap.size, 0, none⟩), .pointer (some ⟨w.heap.size + 1, 0, none⟩), .slice (some ⟨W.heap.size, 0, none⟩) 0 0, .pointer (some ⟨w.heap.size, 0, none⟩), .slice a0 l0 c0, .slice y0 l0 k0, .slice (some ⟨W.heap.size + 1, 0, none⟩) 0 0, .pointer (some ⟨w.heap.size, 1, none⟩), .slice a1 l1 c1, undef, .pointer (some ⟨w.heap.size, 2, none⟩), .int .u32 (ms : Nat), undef], defers := [] }) (l' := #[true, true, true, true, true, true, true, false, true, true, false, false]) (by kernel_rfl) (by kernel_rfl) ?_
      have O2 : w3.ownsRow W.heap.size 50 5 (.slice (some ⟨W.heap.size + 1, 0, none⟩) 0 0) 0 [] := own_keepP (ownNb W) (fun g hg => h3.out.2.1.block g ((ownNb W).lt g hg).2 (fun e => by simp [Value.ownBlock] at e hg; omega))
      refine held_oneN (i := 7) (by kernel_rfl) (wpOp_step rfl (fun K' hK' => ?_))
      refine step_appN rfl (.tmp 7) (.tmp 9) rfl rfl W.heap.size (.slice (some ⟨W.heap.size + 1, 0, none⟩) 0 0) (by simp [Act.eval]) O2 a1 l1 c1 P1 (by simp [Act.eval]) (q1.below B3.out) g1 (by simp) ?_
      intro y1 k1 w4 hw4
      have B4 : Hid (Below W.heap.size W w4) := B3.out.grown hw4.out.2.1 B3.out.size (fun j hj => (O2.lt j hj).1)
      have O1 : Hid (w4.ownsRow W.heap.size 50 5 (.slice y0 l0 k0) l0 (flP l0 P0)) := own_keepP h3.out.1 (fun g hg => hw4.out.2.1.block g (h3.out.1.lt g hg).2 (fun e => by rcases h3.out.2.2 with s | s <;> rw [s] at hg <;> simp [Value.ownBlock] at e hg <;> omega))
      refine hK' _ _ ⟨hS _ (B4.out.mono (by omega)), ?_⟩
      refine held_at (a' := { tmps := #[.agg #[.slice a0 l0 c0, .slice a1 l1 c1, .int .u32 (ms : Nat)], .pointer (some ⟨w.heap.size, 0, none⟩), .pointer (some ⟨w.heap.size + 1, 0, none⟩), .slice (some ⟨W.heap.size, 0, none⟩) 0 0, .pointer (some ⟨w.heap.size, 0, none⟩), .slice a0 l0 c0, .slice y0 l0 k0, .slice (some ⟨W.heap.size + 1, 0, none⟩) 0 0, .pointer (some ⟨w.heap.size, 1, none⟩), .slice a1 l1 c1, .slice y1 l1 k1, .pointer (some ⟨w.heap.size, 2, none⟩), .int .u32 (ms : Nat), undef], defers := [] }) (l' := #[true, true, true, true, true, true, true, true, true, true, false, false]) (by kernel_rfl) (by kernel_rfl) ?_
      refine wpAnyH_take (i := 10) (v := .agg #[.slice y0 l0 k0, .slice y1 l1 k1, .int .u32 (ms : Nat)]) rfl (by kernel_rfl) (by kernel_rfl) (by kernel_rfl) (fun _ _ _ h => h) (Or.inl ⟨by kernel_rfl, fun w hSw => by go_simp⟩) (hS _ (B4.out.mono (by omega))) ?_
      refine held_at (a' := { tmps := #[.agg #[.slice a0 l0 c0, .slice a1 l1 c1, .int .u32 (ms : Nat)], .pointer (some ⟨w.heap.size, 0, none⟩), .pointer (some ⟨w.heap.size + 1, 0, none⟩), .slice (some ⟨W.heap.size, 0, none⟩) 0 0, .pointer (some ⟨w.heap.size, 0, none⟩), .slice a0 l0 c0, .slice y0 l0 k0, .slice (some ⟨W.heap.size + 1, 0, none⟩) 0 0, .pointer (some ⟨w.heap.size, 1, none⟩), .slice a1 l1 c1, .slice y1 l1 k1, .pointer (some ⟨w.heap.size, 2, none⟩), .int .u32 (ms : Nat), .agg #[.slice y0 l0 k0, .slice y1 l1 k1, .int .u32 (ms : Nat)]], defers := [] }) (l' := #[true, true, true, true, true, true, true, true, true, true, true, false]) (by kernel_rfl) (by kernel_rfl) ?_
      have HF := netfin (ms := ms) B4.out HZ.out hlt O1.out hw4.out.1
      obtain ⟨z0, z1, z2, zf⟩ := netcells B4.out HZ.out
      refine held_skip (i := 11) (((w4.setCell ⟨w.heap.size + 1, 0, none⟩ (.slice y0 l0 k0)).setCell ⟨w.heap.size + 1, 1, none⟩ (.slice y1 l1 k1)).setCell ⟨w.heap.size + 1, 2, none⟩ (.int .u32 (ms : Nat))) (by kernel_rfl) rfl (by kernel_rfl) (by go_simp) (hS _ HF.1) ?_
      refine held_at (a' := { tmps := #[.agg #[.slice a0 l0 c0, .slice a1 l1 c1, .int .u32 (ms : Nat)], .pointer (some ⟨w.heap.size, 0, none⟩), .pointer (some ⟨w.heap.size + 1, 0, none⟩), .slice (some ⟨W.heap.size, 0, none⟩) 0 0, .pointer (some ⟨w.heap.size, 0, none⟩), .slice a0 l0 c0, .slice y0 l0 k0, .slice (some ⟨W.heap.size + 1, 0, none⟩) 0 0, .pointer (some ⟨w.heap.size, 1, none⟩), .slice a1 l1 c1, .slice y1 l1 k1, .pointer (some ⟨w.heap.size, 2, none⟩), .int .u32 (ms : Nat), .agg #[.slice y0 l0 k0, .slice y1 l1 k1, .int .u32 (ms : Nat)]], defers := [] }) (l' := #[true, true, true, true, true, true, true, true, true, true, true, true]) (by kernel_rfl) (by kernel_rfl) ?_
      refine wpAnyH_done (by kernel_rfl) ?_ _
      have HR : Hid (_) := HF.2
      have rr0 := cell_of_row _ _ 0 _ _ _ HF.2.1
      have rr1 := cell_of_row _ _ 1 _ _ _ HF.2.1
      have rr2 := cell_of_row _ _ 2 _ _ _ HF.2.1
      generalize ((w4.setCell ⟨w.heap.size + 1, 0, none⟩ (.slice y0 l0 k0)).setCell ⟨w.heap.size + 1, 1, none⟩ (.slice y1 l1 k1)).setCell ⟨w.heap.size + 1, 2, none⟩ (.int .u32 (ms : Nat)) = W9 at *
      clear z0 z1 z2 zf
      go_wp2_with fail
      refine bodyPost_ret (v := .agg #[.slice y0 l0 k0, .slice y1 l1 k1, .int .u32 (ms : Nat)]) (by simp [results, Tryd.results13, go_sem, rr0, rr1, rr2]) rfl ⟨_, _, _, _, rfl, HR.out.2.1, HR.out.2.2.1, ?_⟩
      exact HBw.out.trans (HR.out.2.2.2.mono (by omega))
  · refine any_val (.slice (some ⟨W.heap.size, 0, none⟩) 0 0) ((W.alloc (.cells #[] 50)).drew) rfl (by kernel_rfl) (by go_simp) ⟨(hS _ ((belN1 W).mono (by omega))), ?_⟩
    refine held_at (a' := { tmps := #[.agg #[.slice a0 l0 c0, .slice a1 l1 c1, .int .u32 (ms : Nat)], .pointer (some ⟨w.heap.size, 0, none⟩), .pointer (some ⟨w.heap.size + 1, 0, none⟩), undef, .pointer (some ⟨w.heap.size, 0, none⟩), .slice a0 l0 c0, undef, .slice (some ⟨W.heap.size, 0, none⟩) 0 0, .pointer (some ⟨w.heap.size, 1, none⟩), .slice a1 l1 c1, undef, .pointer (some ⟨w.heap.size, 2, none⟩), .int .u32 (ms : Nat), undef], defers := [] }) (l' := #[false, true, true, false, true, true, true, false, true, true, false, false]) (by kernel_rfl) (by kernel_rfl) ?_
    refine held_oneN (i := 0) (by kernel_rfl) (any_val (.slice (some ⟨W.heap.size + 1, 0, none⟩) 0 0) (((W.alloc (.cells #[] 50)).alloc (.cells #[] 50)).drew) rfl (by kernel_rfl) (by go_simp) ⟨(hS _ ((belN2 W).mono (by omega))), ?_⟩)
    refine held_at (a' := { tmps := #[.agg #[.slice a0 l0 c0, .slice a1 l1 c1, .int .u32 (ms : Nat)], .pointer (some ⟨w.heap.size, 0, none⟩), .pointer (some ⟨w.heap.size + 1, 0, none⟩), .slice (some ⟨W.heap.size + 1, 0, none⟩) 0 0, .pointer (some ⟨w.heap.size, 0, none⟩), .slice a0 l0 c0, undef, .slice (some ⟨W.heap.size, 0, none⟩) 0 0, .pointer (some ⟨w.heap.size, 1, none⟩), .slice a1 l1 c1, undef, .pointer (some ⟨w.heap.size, 2, none⟩), .int .u32 (ms : Nat), undef], defers := [] }) (l' := #[true, true, true, false, true, true, true, false, true, true, false, false]) (by kernel_rfl) (by kernel_rfl) ?_
    refine held_oneN (i := 3) (by kernel_rfl) (wpOp_step rfl (fun K' hK' => ?_))
    refine step_appN rfl (.tmp 3) (.tmp 5) rfl rfl W.heap.size (.slice (some ⟨W.heap.size + 1, 0, none⟩) 0 0) (by simp [Act.eval]) (ownNb W) a0 l0 c0 P0 (by simp [Act.eval]) (q0.below (belN2 W)) g0 (by simp) ?_
    intro y0 k0 w3 h3
    have B3 : Hid (Below W.heap.size W w3) := (belN2 W).grown h3.out.2.1 (belN2 W).size (fun j hj => ((ownNb W).lt j hj).1)
    refine hK' _ _ ⟨hS _ (B3.out.mono (by omega)), ?_⟩
    refine held_at (a' := { tmps := #[.agg #[.slice a0 l0 c0, .slice a1 l1 c1, .int .u32 (ms : Nat)], .pointer (some ⟨w.heap.size, 0, none⟩), .pointer (some ⟨w.heap.size + 1, 0, none⟩), .slice (some ⟨W.heap.size + 1, 0, none⟩) 0 0, .pointer (some ⟨w.heap.size, 0, none⟩), .slice a0 l0 c0, .slice y0 l0 k0, .slice (some ⟨W.heap.size, 0, none⟩) 0 0, .pointer (some ⟨w.heap.size, 1, none⟩), .slice a1 l1 c1, undef, .pointer (some ⟨w.heap.size, 2, none⟩), .int .u32 (ms : Nat), undef], defers := [] }) (l' := #[true, true, true, true, true, true, true, false, true, true, false, false]) (by kernel_rfl) (by kernel_rfl) ?_
    have O2 : w3.ownsRow W.heap.size 50 5 (.slice (some ⟨W.heap.size, 0, none⟩) 0 0) 0 [] := own_keepP (ownNa W) (fun g hg => h3.out.2.1.block g ((ownNa W).lt g hg).2 (fun e => by simp [Value.ownBlock] at e hg; omega))
    refine held_oneN (i := 7) (by kernel_rfl) (wpOp_step rfl (fun K' hK' => ?_))
    refine step_appN rfl (.tmp 7) (.tmp 9) rfl rfl W.heap.size (.slice (some ⟨W.heap.size, 0, none⟩) 0 0) (by simp [Act.eval]) O2 a1 l1 c1 P1 (by simp [Act.eval]) (q1.below B3.out) g1 (by simp) ?_
    intro y1 k1 w4 hw4
    have B4 : Hid (Below W.heap.size W w4) := B3.out.grown hw4.out.2.1 B3.out.size (fun j hj => (O2.lt j hj).1)
    have O1 : Hid (w4.ownsRow W.heap.size 50 5 (.slice y0 l0 k0) l0 (flP l0 P0)) := own_keepP h3.out.1 (fun g hg => hw4.out.2.1.block g (h3.out.1.lt g hg).2 (fun e => by rcases h3.out.2.2 with s | s <;> rw [s] at hg <;> simp [Value.ownBlock] at e hg <;> omega))
    refine hK' _ _ ⟨hS _ (B4.out.mono (by omega)), ?_⟩
    refine held_at (a' := { tmps := #[.agg #[.slice a0 l0 c0, .slice a1 l1 c1, .int .u32 (ms : Nat)], .pointer (some ⟨w.heap.size, 0, none⟩), .pointer (some ⟨w.heap.size + 1, 0, none⟩), .slice (some ⟨W.heap.size + 1, 0, none⟩) 0 0, .pointer (some ⟨w.heap.size, 0, none⟩), .slice a0 l0 c0, .slice y0 l0 k0, .slice (some ⟨W.heap.size, 0, none⟩) 0 0, .pointer (some ⟨w.heap.size, 1, none⟩), .slice a1 l1 c1, .slice y1 l1 k1, .pointer (some ⟨w.heap.size, 2, none⟩), .int .u32 (ms : Nat), undef], defers := [] }) (l' := #[true, true, true, true, true, true, true, true, true, true, false, false]) (by kernel_rfl) (by kernel_rfl) ?_
    refine wpAnyH_take (i := 10) (v := .agg #[.slice y0 l0 k0, .slice y1 l1 k1, .int .u32 (ms : Nat)]) rfl (by kernel_rfl) (by kernel_rfl) (by kernel_rfl) (fun _ _ _ h => h) (Or.inl ⟨by kernel_rfl, fun w hSw => by go_simp⟩) (hS _ (B4.out.mono (by omega))) ?_
    refine held_at (a' := { tmps := #[.agg #[.slice a0 l0 c0, .slice a1 l1 c1, .int .u32 (ms : Nat)], .pointer (some ⟨w.heap.size, 0, none⟩), .pointer (some ⟨w.heap.size + 1, 0, none⟩), .slice (some ⟨W.heap.size + 1, 0, none⟩) 0 0, .pointer (some ⟨w.heap.size, 0, none⟩), .slice a0 l0 c0, .slice y0 l0 k0, .slice (some ⟨W.heap.size, 0, none⟩) 0 0, .pointer (some ⟨w.heap.size, 1, none⟩), .slice a1 l1 c1, .slice y1 l1 k1, .pointer (some ⟨w.heap.size, 2, none⟩), .int .u32 (ms : Nat), .agg #[.slice y0 l0 k0, .slice y1 l1 k1, .int .u32 (ms : Nat)]], defers := [] }) (l' := #[true, true, true, true, true, true, true, true, true, true, true, false]) (by kernel_rfl) (by kernel_rfl) ?_
    have HF := netfin (ms := ms) B4.out HZ.out hlt O1.out hw4.out.1
    obtain ⟨z0, z1, z2, zf⟩ := netcells B4.out HZ.out
    refine held_skip (i := 11) (((w4.setCell ⟨w.heap.size + 1, 0, none⟩ (.slice y0 l0 k0)).setCell ⟨w.heap.size + 1, 1, none⟩ (.slice y1 l1 k1)).setCell ⟨w.heap.size + 1, 2, none⟩ (.int .u32 (ms : Nat))) (by kernel_rfl) rfl (by kernel_rfl) (by go_simp) (hS _ HF.1) ?_
    refine held_at (a' := { tmps := #[.agg #[.slice a0 l0 c0, .slice a1 l1 c1, .int .u32 (ms : Nat)], .pointer (some ⟨w.heap.size, 0, none⟩), .pointer (some ⟨w.heap.size + 1, 0, none⟩), .slice (some ⟨W.heap.size + 1, 0, none⟩) 0 0, .pointer (some ⟨w.heap.size, 0, none⟩), .slice a0 l0 c0, .slice y0 l0 k0, .slice (some ⟨W.heap.size, 0, none⟩) 0 0, .pointer (some ⟨w.heap.size, 1, none⟩), .slice a1 l1 c1, .slice y1 l1 k1, .pointer (some ⟨w.heap.size, 2, none⟩), .int .u32 (ms : Nat), .agg #[.slice y0 l0 k0, .slice y1 l1 k1, .int .u32 (ms : Nat)]], defers := [] }) (l' := #[true, true, true, true, true, true, true, true, true, true, true, true]) (by kernel_rfl) (by kernel_rfl) ?_
    refine wpAnyH_done (by kernel_rfl) ?_ _
    have HR : Hid (_) := HF.2
    have rr0 := cell_of_row _ _ 0 _ _ _ HF.2.1
    have rr1 := cell_of_row _ _ 1 _ _ _ HF.2.1
    have rr2 := cell_of_row _ _ 2 _ _ _ HF.2.1
    generalize ((w4.setCell ⟨w.heap.size + 1, 0, none⟩ (.slice y0 l0 k0)).setCell ⟨w.heap.size + 1, 1, none⟩ (.slice y1 l1 k1)).setCell ⟨w.heap.size + 1, 2, none⟩ (.int .u32 (ms : Nat)) = W9 at *
    clear z0 z1 z2 zf
    go_wp2_with fail
    refine bodyPost_ret (v := .agg #[.slice y0 l0 k0, .slice y1 l1 k1, .int .u32 (ms : Nat)]) (by simp [results, Tryd.results13, go_sem, rr0, rr1, rr2]) rfl ⟨_, _, _, _, rfl, HR.out.2.1, HR.out.2.2.1, ?_⟩
    exact HBw.out.trans (HR.out.2.2.2.mono (by omega))
end Go.Proofs.YtnmnjcjfgbpkaaaDoor
