/- Part 48 of the texts on which the proof rests: contracts of Go functions. -/
import Derived.Test.YtpbcgpdfjplidaaGreatPkN46
namespace Go.Proofs.YtpbcgpdfjplidaaGreat
set_option maxRecDepth 100000
open Go.RowKit Go.Maps
set_option maxRecDepth 100000
set_option linter.unusedVariables false
theorem own_cellY {w : World} {B e size g n c : Nat} {xs : List Value} (h : w.ownsRow B e size (.slice (some ⟨g, 0, none⟩) n c) n xs) : ∀ j u, xs[j]? = some u → w.cell? ⟨g, j, none⟩ = some u := fun j u hu => by
  rcases h.2 with ⟨e1, _⟩ | ⟨g', cap, cur, e1, _, hg, _, _, _, hx⟩
  · cases e1
  · injection e1 with e2 _ _
    injection e2 with e3
    injection e3 with e4
    subst e4
    rw [cell_of_row w g j _ _ _ hg, ← hu, ← hx]
    have : j < n * size := by
      have h1 := (List.getElem?_eq_some_iff.1 hu).1
      rw [h.1] at h1
      exact h1
    rw [List.getElem?_take_of_lt this]
    simp
theorem own_someY {w : World} {B e size n c : Nat} {a : Option Addr} {xs : List Value} (h : w.ownsRow B e size (.slice a n c) n xs) (hn : n ≠ 0) : ∃ g, a = some ⟨g, 0, none⟩ ∧ B ≤ g := by
  rcases h.2 with ⟨_, e1⟩ | ⟨g', cap, cur, e1, hb, _⟩
  · exact absurd e1 hn
  · injection e1 with e2 _ _
    exact ⟨g', e2, hb⟩
theorem own_lowY {w : World} {B B' e size n : Nat} {v : Value} {xs : List Value} (h : w.ownsRow B e size v n xs) (hB : B' ≤ B) : w.ownsRow B' e size v n xs := by
  refine ⟨h.1, ?_⟩
  rcases h.2 with h1 | ⟨g, cap, cur, e1, hb, r⟩
  · exact .inl h1
  · exact .inr ⟨g, cap, cur, e1, Nat.le_trans hB hb, r⟩
set_option maxHeartbeats 4000000 in
theorem pcheckN (P Q : Pm) (hP : Pok P) (hQ : Pok Q) (q0 q1 mx : Nat) (h0 : mx ≠ 0) (w : World) (k0 : w.heap[q0]? = some (.cells #[.int .u32 (P.c : Nat), .int .i64 (P.o : Nat), .int .i64 (P.i : Nat), .int .i64 (P.t : Nat), .int .u32 (P.n : Nat)] 83 (0, 0))) (k1 : w.heap[q1]? = some (.cells #[.int .u32 (Q.c : Nat), .int .i64 (Q.o : Nat), .int .i64 (Q.i : Nat), .int .i64 (Q.t : Nat), .int .u32 (Q.n : Nat)] 83 (0, 0))) : Calls Tryz.prog 35 #[.agg #[.slice (some ⟨q0, 0, none⟩) 1 1, .slice (some ⟨q1, 0, none⟩) 1 1, .int .u32 (mx : Nat)]] w fun r w' => r = .returned (.int .i64 0) ∧ Hid (Below w.heap.size w w') := by
  have kA := heap_alloc_new w (.cells #[.slice (some ⟨q0, 0, none⟩) 1 1, .slice (some ⟨q1, 0, none⟩) 1 1, .int .u32 (mx : Nat)] 51)
  have bA := belY (Below.refl _ w) (.cells #[.slice (some ⟨q0, 0, none⟩) 1 1, .slice (some ⟨q1, 0, none⟩) 1 1, .int .u32 (mx : Nat)] 51)
  obtain ⟨wa, hwa⟩ : ∃ y, w.alloc (.cells #[.slice (some ⟨q0, 0, none⟩) 1 1, .slice (some ⟨q1, 0, none⟩) 1 1, .int .u32 (mx : Nat)] 51) = y := ⟨_, rfl⟩
  rw [hwa] at kA bA
  have l0 := (Array.getElem?_eq_some_iff.1 k0).1
  have l1 := (Array.getElem?_eq_some_iff.1 k1).1
  obtain ⟨x, hx⟩ : ∃ y, w.heap.size = y := ⟨_, rfl⟩
  rw [hx] at kA
  have n0 : wa.cell? ⟨x, 0, none⟩ = some (.slice (some ⟨q0, 0, none⟩) 1 1) := cell_of_row wa x 0 _ _ _ kA
  have n1 : wa.cell? ⟨x, 1, none⟩ = some (.slice (some ⟨q1, 0, none⟩) 1 1) := cell_of_row wa x 1 _ _ _ kA
  have n2 : wa.cell? ⟨x, 2, none⟩ = some (.int .u32 (mx : Nat)) := cell_of_row wa x 2 _ _ _ kA
  have bB := belY (Below.refl _ wa) (.cells #[.slice (some ⟨q0, 0, none⟩) 1 1, .slice (some ⟨q1, 0, none⟩) 1 1] 49)
  have kB := heap_alloc_new wa (.cells #[.slice (some ⟨q0, 0, none⟩) 1 1, .slice (some ⟨q1, 0, none⟩) 1 1] 49)
  have lxa := (Array.getElem?_eq_some_iff.1 kA).1
  have lqa0 : q0 < wa.heap.size := Nat.lt_of_lt_of_le l0 bA.size
  have lqa1 : q1 < wa.heap.size := Nat.lt_of_lt_of_le l1 bA.size
  have hCc := pconcat2 P Q wa.heap.size q0 q1 (wa.alloc (.cells #[.slice (some ⟨q0, 0, none⟩) 1 1, .slice (some ⟨q1, 0, none⟩) 1 1] 49)) kB ((bB.block q0 lqa0).trans ((bA.block q0 l0).trans k0)) ((bB.block q1 lqa1).trans ((bA.block q1 l1).trans k1))
  have hmx : ¬ (((mx : Nat) : Int) < 1) := by omega
  have HH : Hid (_) := And.intro bA (And.intro bB (And.intro kA (And.intro k0 (And.intro k1 (And.intro l0 (And.intro l1 (And.intro lxa (And.intro lqa0 lqa1))))))))
  have HE : Hid (_ = wa) := hwa
  have HS : Hid (w.heap.size = x) := hx
  clear bA bB kA kB k0 k1 l0 l1 lxa lqa0 lqa1 hwa hx h0
  go_enter Tryz.func35, Tryz.ntmps35
  go_upto_region 1 with fail
  rw [HE.out, HS.out]
  go_wp2_with fail
  refine hCc.mono ?_
  rintro r w1 ⟨a, c, rfl, H1⟩
  clear hCc n0 n1 n2
  obtain ⟨bA, bB, kA, k0, k1, l0, l1, lxa, lqa0, lqa1⟩ := HH.out
  obtain ⟨g, rfl, hgB⟩ := own_someY H1.out.1 (by omega)
  have b1 : Below wa.heap.size wa w1 := bB.trans (H1.out.2.mono bB.size)
  have cc := own_cellY H1.out.1
  have p0 : w1.cell? ⟨g, 0, none⟩ = some (.int .u32 (P.c : Nat)) := cc 0 _ rfl
  have p1 : w1.cell? ⟨g, 1, none⟩ = some (.int .i64 (P.o : Nat)) := cc 1 _ rfl
  have p2 : w1.cell? ⟨g, 2, none⟩ = some (.int .i64 (P.i : Nat)) := cc 2 _ rfl
  have p3 : w1.cell? ⟨g, 3, none⟩ = some (.int .i64 (P.t : Nat)) := cc 3 _ rfl
  have p4 : w1.cell? ⟨g, 4, none⟩ = some (.int .u32 (P.n : Nat)) := cc 4 _ rfl
  have bC := belY (Below.refl _ w1) (.cells #[.int .u32 (P.c : Nat), .int .i64 (P.o : Nat), .int .i64 (P.i : Nat), .int .i64 (P.t : Nat), .int .u32 (P.n : Nat)] 83)
  have hK1 := check_any P.c P.o P.i P.t P.n (w1.alloc (.cells #[.int .u32 (P.c : Nat), .int .i64 (P.o : Nat), .int .i64 (P.i : Nat), .int .i64 (P.t : Nat), .int .u32 (P.n : Nat)] 83)) 0 (if_pos hP.ok)
  have HG : Hid (_) := And.intro b1 (And.intro cc bC)
  clear bA bB kA k0 k1 l0 l1 lxa lqa0 lqa1 b1 cc bC
  go_wp2_with fail
  refine wp_loop_rounds 3 ?_
  rw [rounds_succ]
  go_wp2_with fail
  refine hK1.mono ?_
  rintro r w2 ⟨rfl, b2⟩
  clear hK1 p0 p1 p2 p3 p4
  obtain ⟨b1, cc, bC⟩ := HG.out
  have b12 : Below w1.heap.size w1 w2 := bC.trans (b2.mono bC.size)
  have p0 : w2.cell? ⟨g, 5, none⟩ = some (.int .u32 (Q.c : Nat)) := cellY (cc 5 _ rfl) b12
  have p1 : w2.cell? ⟨g, 6, none⟩ = some (.int .i64 (Q.o : Nat)) := cellY (cc 6 _ rfl) b12
  have p2 : w2.cell? ⟨g, 7, none⟩ = some (.int .i64 (Q.i : Nat)) := cellY (cc 7 _ rfl) b12
  have p3 : w2.cell? ⟨g, 8, none⟩ = some (.int .i64 (Q.t : Nat)) := cellY (cc 8 _ rfl) b12
  have p4 : w2.cell? ⟨g, 9, none⟩ = some (.int .u32 (Q.n : Nat)) := cellY (cc 9 _ rfl) b12
  have bD := belY (Below.refl _ w2) (.cells #[.int .u32 (Q.c : Nat), .int .i64 (Q.o : Nat), .int .i64 (Q.i : Nat), .int .i64 (Q.t : Nat), .int .u32 (Q.n : Nat)] 83)
  have hK2 := check_any Q.c Q.o Q.i Q.t Q.n (w2.alloc (.cells #[.int .u32 (Q.c : Nat), .int .i64 (Q.o : Nat), .int .i64 (Q.i : Nat), .int .i64 (Q.t : Nat), .int .u32 (Q.n : Nat)] 83)) 0 (if_pos hQ.ok)
  have HG2 : Hid (_) := And.intro b12 bD
  clear b1 cc bC b2 b12 bD
  go_wp2_with fail
  rw [rounds_succ]
  go_wp2_with fail
  refine hK2.mono ?_
  rintro r w3 ⟨rfl, b3⟩
  clear hK2 p0 p1 p2 p3 p4
  obtain ⟨b1, cc, bC⟩ := HG.out
  obtain ⟨b12, bD⟩ := HG2.out
  obtain ⟨bA, bB, kA, k0, k1, l0, l1, lxa, lqa0, lqa1⟩ := HH.out
  have b13 : Below wa.heap.size wa w3 := (b1.trans (b12.mono b1.size)).trans ((bD.trans (b3.mono bD.size)).mono (Nat.le_trans b1.size b12.size))
  have kx := (b13.block x lxa).trans kA
  have n0 : w3.cell? ⟨x, 0, none⟩ = some (.slice (some ⟨q0, 0, none⟩) 1 1) := cell_of_row w3 x 0 _ _ _ kx
  have n1 : w3.cell? ⟨x, 1, none⟩ = some (.slice (some ⟨q1, 0, none⟩) 1 1) := cell_of_row w3 x 1 _ _ _ kx
  have n2 : w3.cell? ⟨x, 2, none⟩ = some (.int .u32 (mx : Nat)) := cell_of_row w3 x 2 _ _ _ kx
  have hD1 := pdoubled1 P q0 w3 ((b13.block q0 lqa0).trans ((bA.block q0 l0).trans k0))
  have HG3 : Hid (_) := b13
  clear b1 cc bC b12 bD bA bB kA k0 k1 l0 l1 lxa lqa0 lqa1 b3 b13 kx
  go_wp2_with fail
  rw [rounds_succ]
  go_wp2_with fail
  refine hD1.mono ?_
  rintro r w4 ⟨rfl, b4⟩
  clear hD1 n0 n1 n2
  obtain ⟨bA, bB, kA, k0, k1, l0, l1, lxa, lqa0, lqa1⟩ := HH.out
  have b14 : Below wa.heap.size wa w4 := HG3.out.trans (b4.mono HG3.out.size)
  have kx := (b14.block x lxa).trans kA
  have n0 : w4.cell? ⟨x, 0, none⟩ = some (.slice (some ⟨q0, 0, none⟩) 1 1) := cell_of_row w4 x 0 _ _ _ kx
  have n1 : w4.cell? ⟨x, 1, none⟩ = some (.slice (some ⟨q1, 0, none⟩) 1 1) := cell_of_row w4 x 1 _ _ _ kx
  have n2 : w4.cell? ⟨x, 2, none⟩ = some (.int .u32 (mx : Nat)) := cell_of_row w4 x 2 _ _ _ kx
  have hD2 := pdoubled1 Q q1 w4 ((b14.block q1 lqa1).trans ((bA.block q1 l1).trans k1))
  have HG4 : Hid (_) := And.intro b14 bA
  clear bA bB kA k0 k1 l0 l1 lxa lqa0 lqa1 b4 b14 kx
  go_wp2_with fail
  refine hD2.mono ?_
  rintro r w5 ⟨rfl, b5⟩
  clear hD2
  go_wp2_with fail
  go_ret
  exact ⟨rfl, HG4.out.2.trans ((HG4.out.1.trans (b5.mono HG4.out.1.size)).mono HG4.out.2.size)⟩
set_option maxHeartbeats 1000000 in
theorem pcloneM (P : Pm) (q : Nat) (w : World) (h : w.heap[q]? = some (.cells #[.int .u32 (P.c : Nat), .int .i64 (P.o : Nat), .int .i64 (P.i : Nat), .int .i64 (P.t : Nat), .int .u32 (P.n : Nat)] 83 (0, 0))) : Calls Tryz.prog 51 #[.slice (some ⟨q, 0, none⟩) 1 1] w fun r w' => ∃ a' c', r = .returned (.slice a' 1 c') ∧ Hid (w'.ownsRow w.heap.size 83 5 (.slice a' 1 c') 1 P.cs ∧ Below w.heap.size w w') := by
  have hnn : ∀ w, (binOp .eql 49 (.slice (some ⟨q, 0, none⟩) 1 1) (.slice none 0 0)).run Tryz.prog w = .ok (.bool false) w := fun _ => rfl
  obtain ⟨i0, hI, hz0, hz1, hz2⟩ := info_parts info_parY
  have bA := belY (Below.refl _ w) (.cells #[] 83)
  have oA : (w.alloc (.cells #[] 83)).ownsRow w.heap.size 83 5 (.slice (some ⟨w.heap.size, 0, none⟩) 0 0) 0 [] := World.ownsRow_made w #[] 0 (Nat.le_refl _) (Nat.zero_le _) rfl
  have sA := Pm.cells ((bA.block q (Array.getElem?_eq_some_iff.1 h).1).trans h)
  have HB : Hid (_) := bA
  have zA : w.heap.size ≤ (w.alloc (.cells #[] 83)).heap.size := bA.size
  clear h bA
  go_enter Tryz.func51, Tryz.ntmps51
  go_wp2_with (at_builtin; refine wpList_append_own_at _ rfl _ _ 49 rfl w.heap.size 83 i0 (.agg #[.int .u32 0, .int .i64 0, .int .i64 0, .int .i64 0, .int .u32 0]) 5 40 Tryz.underlying49 hI hz0 hz1 hz2 rfl (by decide) (.slice (some ⟨w.heap.size, 0, none⟩) 0 0) 0 [] rfl oA ⟨q, 0, none⟩ 1 1 P.cs rfl rfl sA P.cs_one (by unfold maxLen; omega) (by omega) zA ?_)
  intro v' w' o' g' _ _
  obtain ⟨a', c', rfl⟩ := own_shape o'
  have HF : Hid (_) := And.intro o' (HB.out.grown g' HB.out.size (fun k hk => (oA.lt k hk).1))
  clear o' g' oA sA zA hnn
  go_wp2_with fail
  go_ret
  exact ⟨_, _, rfl, HF.out.1, HF.out.2⟩
set_option maxHeartbeats 2000000 in
theorem pcopiedM (P Q : Pm) (q0 q1 mx : Nat) (w : World) (k0 : w.heap[q0]? = some (.cells #[.int .u32 (P.c : Nat), .int .i64 (P.o : Nat), .int .i64 (P.i : Nat), .int .i64 (P.t : Nat), .int .u32 (P.n : Nat)] 83 (0, 0))) (k1 : w.heap[q1]? = some (.cells #[.int .u32 (Q.c : Nat), .int .i64 (Q.o : Nat), .int .i64 (Q.i : Nat), .int .i64 (Q.t : Nat), .int .u32 (Q.n : Nat)] 83 (0, 0))) : Calls Tryz.prog 34 #[.agg #[.slice (some ⟨q0, 0, none⟩) 1 1, .slice (some ⟨q1, 0, none⟩) 1 1, .int .u32 (mx : Nat)]] w fun r w' => ∃ a0 c0 a1 c1, r = .returned (.agg #[.slice a0 1 c0, .slice a1 1 c1, .int .u32 (mx : Nat)]) ∧ Hid (w'.ownsRow w.heap.size 83 5 (.slice a0 1 c0) 1 P.cs ∧ w'.ownsRow w.heap.size 83 5 (.slice a1 1 c1) 1 Q.cs ∧ Below w.heap.size w w' ∧ ∀ k, (Value.slice a0 1 c0).ownBlock = some k → (Value.slice a1 1 c1).ownBlock ≠ some k) := by
  have kA0 := heap_alloc_new w (.cells #[.slice (some ⟨q0, 0, none⟩) 1 1, .slice (some ⟨q1, 0, none⟩) 1 1, .int .u32 (mx : Nat)] 51)
  have bA := belY (belY (Below.refl _ w) (.cells #[.slice (some ⟨q0, 0, none⟩) 1 1, .slice (some ⟨q1, 0, none⟩) 1 1, .int .u32 (mx : Nat)] 51)) (.cells #[.slice none 0 0, .slice none 0 0, .int .u32 0] 51)
  have s1 : (w.alloc (.cells #[.slice (some ⟨q0, 0, none⟩) 1 1, .slice (some ⟨q1, 0, none⟩) 1 1, .int .u32 (mx : Nat)] 51)).heap.size = w.heap.size + 1 := sz1 _ _
  have kA : ((w.alloc (.cells #[.slice (some ⟨q0, 0, none⟩) 1 1, .slice (some ⟨q1, 0, none⟩) 1 1, .int .u32 (mx : Nat)] 51)).alloc (.cells #[.slice none 0 0, .slice none 0 0, .int .u32 0] 51)).heap[w.heap.size]? = _ := (Below.heap_alloc _ _ _ (by omega)).trans kA0
  have kB := heap_alloc_new (w.alloc (.cells #[.slice (some ⟨q0, 0, none⟩) 1 1, .slice (some ⟨q1, 0, none⟩) 1 1, .int .u32 (mx : Nat)] 51)) (.cells #[.slice none 0 0, .slice none 0 0, .int .u32 0] 51)
  rw [s1] at kB
  have s2 : ((w.alloc (.cells #[.slice (some ⟨q0, 0, none⟩) 1 1, .slice (some ⟨q1, 0, none⟩) 1 1, .int .u32 (mx : Nat)] 51)).alloc (.cells #[.slice none 0 0, .slice none 0 0, .int .u32 0] 51)).heap.size = w.heap.size + 2 := sz2 _ _ _
  obtain ⟨wa, hwa⟩ : ∃ y, (w.alloc (.cells #[.slice (some ⟨q0, 0, none⟩) 1 1, .slice (some ⟨q1, 0, none⟩) 1 1, .int .u32 (mx : Nat)] 51)).alloc (.cells #[.slice none 0 0, .slice none 0 0, .int .u32 0] 51) = y := ⟨_, rfl⟩
  rw [hwa] at kA bA kB s2
  have l0 := (Array.getElem?_eq_some_iff.1 k0).1
  have l1 := (Array.getElem?_eq_some_iff.1 k1).1
  have j0 := (bA.block q0 l0).trans k0
  have j1 := (bA.block q1 l1).trans k1
  obtain ⟨x, hx⟩ : ∃ y, w.heap.size = y := ⟨_, rfl⟩
  have HBa : Hid (Below w.heap.size w wa) := bA
  rw [hx] at kA kB s2
  have hS : ∀ w', Below wa.heap.size wa w' → w'.cell? ⟨x, 0, none⟩ = some (Value.slice (some ⟨q0, 0, none⟩) 1 1) ∧ w'.cell? ⟨x, 1, none⟩ = some (Value.slice (some ⟨q1, 0, none⟩) 1 1) ∧ w'.cell? ⟨x, 2, none⟩ = some (Value.int .u32 (mx : Nat)) := fun w' b => ⟨cellY (cell_of_row wa x 0 _ _ _ kA) b, cellY (cell_of_row wa x 1 _ _ _ kA) b, cellY (cell_of_row wa x 2 _ _ _ kA) b⟩
  have HS0 := hS wa.drew (Below.drew (Below.refl _ _))
  have HSS : Hid (_) := hS
  have HJ : Hid (_) := And.intro j0 (And.intro j1 (And.intro kB s2))
  have HE : Hid (_ = wa) := hwa
  have HS : Hid (w.heap.size = x) := hx
  clear kA0 kA kB bA s1 s2 hwa hx l0 l1 j0 j1 k0 k1 hS
  go_enter Tryz.func34, Tryz.ntmps34
  go_upto_region 1 with fail
  rw [HE.out, HS.out]
  refine wp_region_held_drew (S := fun w' => w'.cell? ⟨x, 0, none⟩ = some (Value.slice (some ⟨q0, 0, none⟩) 1 1) ∧ w'.cell? ⟨x, 1, none⟩ = some (Value.slice (some ⟨q1, 0, none⟩) 1 1) ∧ w'.cell? ⟨x, 2, none⟩ = some (Value.int .u32 (mx : Nat))) (by kernel_rfl) HS0 (fun _ => ?_)
  refine wpAnyH_take (i := 0) (v := Value.pointer (some ⟨x, 0, none⟩)) rfl (by kernel_rfl) (by kernel_rfl) (by kernel_rfl) (fun _ _ _ h => h) (Or.inl ⟨by kernel_rfl, fun w hSw => by go_simp⟩) (by assumption) ?_
  refine wpAnyH_take (i := 1) (v := Value.slice (some ⟨q0, 0, none⟩) 1 1) rfl (by kernel_rfl) (by kernel_rfl) (by kernel_rfl) (fun _ _ _ h => h) (Or.inl ⟨by kernel_rfl, fun w hSw => by go_simp⟩) (by assumption) ?_
  refine wpAnyH_take (i := 3) (v := Value.pointer (some ⟨x, 1, none⟩)) rfl (by kernel_rfl) (by kernel_rfl) (by kernel_rfl) (fun _ _ _ h => h) (Or.inl ⟨by kernel_rfl, fun w hSw => by go_simp⟩) (by assumption) ?_
  refine wpAnyH_take (i := 4) (v := Value.slice (some ⟨q1, 0, none⟩) 1 1) rfl (by kernel_rfl) (by kernel_rfl) (by kernel_rfl) (fun _ _ _ h => h) (Or.inl ⟨by kernel_rfl, fun w hSw => by go_simp⟩) (by assumption) ?_
  refine wpAnyH_take (i := 6) (v := Value.pointer (some ⟨x, 2, none⟩)) rfl (by kernel_rfl) (by kernel_rfl) (by kernel_rfl) (fun _ _ _ h => h) (Or.inl ⟨by kernel_rfl, fun w hSw => by go_simp⟩) (by assumption) ?_
  refine wpAnyH_take (i := 7) (v := Value.int .u32 (mx : Nat)) rfl (by kernel_rfl) (by kernel_rfl) (by kernel_rfl) (fun _ _ _ h => h) (Or.inl ⟨by kernel_rfl, fun w hSw => by go_simp⟩) (by assumption) ?_
  have bd : Below wa.heap.size wa wa.drew := Below.drew (Below.refl _ _)
  refine held_call (i := 2) 51 #[Value.slice (some ⟨q0, 0, none⟩) 1 1] (by kernel_rfl) rfl (by kernel_rfl) (by go_simp) ?_
  refine (pcloneM P q0 wa.drew HJ.out.1).mono ?_
  rintro r w1 ⟨a0, c0, rfl, H1⟩
  have b1 : Below wa.heap.size wa w1 := bd.trans H1.out.2
  refine ⟨_, rfl, HSS.out w1 b1, ?_⟩
  have HSa := HSS.out w1 b1
  refine held_call (i := 5) 51 #[Value.slice (some ⟨q1, 0, none⟩) 1 1] (by kernel_rfl) rfl (by kernel_rfl) (by go_simp) ?_
  refine (pcloneM Q q1 w1 ((b1.block q1 (Array.getElem?_eq_some_iff.1 HJ.out.2.1).1).trans HJ.out.2.1)).mono ?_
  rintro r w2 ⟨a1, c1, rfl, H2⟩
  have b2 : Below wa.heap.size wa w2 := b1.trans (H2.out.2.mono b1.size)
  have HSb := HSS.out w2 b2
  refine ⟨_, rfl, HSb, ?_⟩
  refine wpAnyH_take (i := 8) (v := Value.agg #[Value.slice a0 1 c0, Value.slice a1 1 c1, Value.int .u32 (mx : Nat)]) rfl (by kernel_rfl) (by kernel_rfl) (by kernel_rfl) (fun _ _ _ h => h) (Or.inl ⟨by kernel_rfl, fun w hSw => by go_simp⟩) (by assumption) ?_
  obtain ⟨_, _, kB, s2⟩ := HJ.out
  have kB2 := (b2.block (x + 1) (by omega)).trans kB
  have y0 := cell_of_row w2 (x + 1) 0 _ _ _ kB2
  have y1 := cell_of_row w2 (x + 1) 1 _ _ _ kB2
  have y2 := cell_of_row w2 (x + 1) 2 _ _ _ kB2
  have yz := fun k => frozen_of_row w2 (x + 1) k _ _ kB2
  have kB3 : (((w2.setCell ⟨x + 1, 0, none⟩ (Value.slice a0 1 c0)).setCell ⟨x + 1, 1, none⟩ (Value.slice a1 1 c1)).setCell ⟨x + 1, 2, none⟩ (Value.int .u32 (mx : Nat))).heap[x + 1]? = some (.cells #[Value.slice a0 1 c0, Value.slice a1 1 c1, Value.int .u32 (mx : Nat)] 51 (0, 0)) := Joins.block_setCell (Joins.block_setCell (Joins.block_setCell kB2 _) _) _
  have o3 : Off [x + 1] w2 (((w2.setCell ⟨x + 1, 0, none⟩ (Value.slice a0 1 c0)).setCell ⟨x + 1, 1, none⟩ (Value.slice a1 1 c1)).setCell ⟨x + 1, 2, none⟩ (Value.int .u32 (mx : Nat))) := ((Off.setCell (x + 1) 0 w2 _).trans (Off.setCell (x + 1) 1 _ _)).trans (Off.setCell (x + 1) 2 _ _)
  have hS3 : (((w2.setCell ⟨x + 1, 0, none⟩ (Value.slice a0 1 c0)).setCell ⟨x + 1, 1, none⟩ (Value.slice a1 1 c1)).setCell ⟨x + 1, 2, none⟩ (Value.int .u32 (mx : Nat))).cell? ⟨x, 0, none⟩ = some (Value.slice (some ⟨q0, 0, none⟩) 1 1) ∧ (((w2.setCell ⟨x + 1, 0, none⟩ (Value.slice a0 1 c0)).setCell ⟨x + 1, 1, none⟩ (Value.slice a1 1 c1)).setCell ⟨x + 1, 2, none⟩ (Value.int .u32 (mx : Nat))).cell? ⟨x, 1, none⟩ = some (Value.slice (some ⟨q1, 0, none⟩) 1 1) ∧ (((w2.setCell ⟨x + 1, 0, none⟩ (Value.slice a0 1 c0)).setCell ⟨x + 1, 1, none⟩ (Value.slice a1 1 c1)).setCell ⟨x + 1, 2, none⟩ (Value.int .u32 (mx : Nat))).cell? ⟨x, 2, none⟩ = some (Value.int .u32 (mx : Nat)) := by
    obtain ⟨u0, u1, u2⟩ := HSb
    refine ⟨?_, ?_, ?_⟩
    · rw [World.cell?_of_block (w := w2) (o3.block x (by have := b2.size; omega) (by simp))]; exact u0
    · rw [World.cell?_of_block (w := w2) (o3.block x (by have := b2.size; omega) (by simp))]; exact u1
    · rw [World.cell?_of_block (w := w2) (o3.block x (by have := b2.size; omega) (by simp))]; exact u2
  obtain ⟨w3, hw3⟩ : ∃ z, (((w2.setCell ⟨x + 1, 0, none⟩ (Value.slice a0 1 c0)).setCell ⟨x + 1, 1, none⟩ (Value.slice a1 1 c1)).setCell ⟨x + 1, 2, none⟩ (Value.int .u32 (mx : Nat))) = z := ⟨_, rfl⟩
  rw [hw3] at kB3 o3 hS3
  refine held_skip (i := 9) w3 (by kernel_rfl) rfl (by kernel_rfl) (by rw [← hw3]; go_simp) hS3 ?_
  refine wpAnyH_done (by kernel_rfl) ?_ _
  have z0 := cell_of_row w3 (x + 1) 0 _ _ _ kB3
  have z1 := cell_of_row w3 (x + 1) 1 _ _ _ kB3
  have z2 := cell_of_row w3 (x + 1) 2 _ _ _ kB3
  have HO : Hid (_) := And.intro o3 (And.intro b1 (And.intro b2 s2))
  clear o3 b1 b2 s2 kB kB2 kB3 hS3 HSb HSa hw3 HS0 bd y0 y1 y2 yz
  go_wp2_with fail
  refine bodyPost_ret (v := .agg #[.slice a0 1 c0, .slice a1 1 c1, .int .u32 (mx : Nat)]) (by simp [results, Tryz.results34, go_sem, z0, z1, z2]) rfl ?_
  obtain ⟨o3, b1, b2, s2⟩ := HO.out
  have hb := HBa.out
  have hsx := HS.out
  have hdz : wa.drew.heap.size = wa.heap.size := rfl
  have lt1 := H1.out.1.lt
  have lt2 := H2.out.1.lt
  have l1 := b1.size
  have u0 : w2.ownsRow wa.heap.size 83 5 (.slice a0 1 c0) 1 P.cs := own_offY (l := []) H1.out.1 (Off.of_below H2.out.2) (by simp)
  have v0 := own_offY u0 o3 (fun k hk hm => by have := (lt1 k hk).1; simp at hm; omega)
  have v1 := own_offY H2.out.1 o3 (fun k hk hm => by have := (lt2 k hk).1; simp at hm; omega)
  refine ⟨a0, c0, a1, c1, rfl, own_lowY v0 (by omega), own_lowY v1 (by omega), o3.below (hb.trans (b2.mono hb.size)) (by simp; omega) (Nat.le_trans hb.size b2.size), fun k hk hm => ?_⟩
  have := (lt1 k hk).2
  have := (lt2 k hm).1
  omega
end Go.Proofs.YtpbcgpdfjplidaaGreat
