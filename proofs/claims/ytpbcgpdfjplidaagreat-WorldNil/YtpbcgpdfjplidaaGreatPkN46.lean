/- Part 47 of the texts on which the proof rests: contracts of Go functions. -/
import Derived.Lib.AppendZerosOnto
import Derived.LoopN
import Derived.Test.YtpbcgpdfjplidaaGreatPkN37
import Derived.Test.YtpbcgpdfjplidaaGreatPkN43
namespace Go.Proofs.YtpbcgpdfjplidaaGreat
set_option maxRecDepth 100000
open Go.RowKit Go.Maps
set_option maxRecDepth 100000
set_option linter.unusedVariables false
set_option maxHeartbeats 4000000 in
theorem pnewConn (PH PD : Pm) (hH : Pok PH) (hD : Pok PD) (mx : Nat) (hx : mx < 4294967296) (h0 : mx ≠ 0) (w : World) : Calls Tryz.prog 37 #[.agg #[.int .u32 (PH.c : Nat), .int .i64 (PH.o : Nat), .int .i64 (PH.i : Nat), .int .i64 (PH.t : Nat), .int .u32 (PH.n : Nat)], .agg #[.int .u32 (PD.c : Nat), .int .i64 (PD.o : Nat), .int .i64 (PD.i : Nat), .int .i64 (PD.t : Nat), .int .u32 (PD.n : Nat)], .int .u32 (mx : Nat)] w fun r w' => ∃ h d m g, r = .returned (.agg #[.pointer (some ⟨h, 0, none⟩), .pointer (some ⟨d, 0, none⟩), .pointer (some ⟨m, 0, none⟩)]) ∧ Hid (Below w.heap.size w w' ∧ ∃ hU dU, HV w' h PH hU hnew ∧ DV w' d m g 16 mx PD dU (dnew M0) ∧ (∀ k, k ∈ hU → w.heap.size ≤ k) ∧ (∀ k, k ∈ dU → w.heap.size ≤ k) ∧ ∀ k, k ∈ hU → k ∉ dU) := by
  have s1 : (w.alloc (.cells #[.int .u32 (PH.c : Nat), .int .i64 (PH.o : Nat), .int .i64 (PH.i : Nat), .int .i64 (PH.t : Nat), .int .u32 (PH.n : Nat)] 83)).heap.size = w.heap.size + 1 := sz1 _ _
  have s2 : ((w.alloc (.cells #[.int .u32 (PH.c : Nat), .int .i64 (PH.o : Nat), .int .i64 (PH.i : Nat), .int .i64 (PH.t : Nat), .int .u32 (PH.n : Nat)] 83)).alloc (.cells #[.int .u32 (PD.c : Nat), .int .i64 (PD.o : Nat), .int .i64 (PD.i : Nat), .int .i64 (PD.t : Nat), .int .u32 (PD.n : Nat)] 83)).heap.size = w.heap.size + 2 := sz2 _ _ _
  have s3 : (((w.alloc (.cells #[.int .u32 (PH.c : Nat), .int .i64 (PH.o : Nat), .int .i64 (PH.i : Nat), .int .i64 (PH.t : Nat), .int .u32 (PH.n : Nat)] 83)).alloc (.cells #[.int .u32 (PD.c : Nat), .int .i64 (PD.o : Nat), .int .i64 (PD.i : Nat), .int .i64 (PD.t : Nat), .int .u32 (PD.n : Nat)] 83)).alloc (.cells #[Value.pointer none, Value.pointer none, Value.pointer none] 69)).heap.size = w.heap.size + 3 := sz3 _ _ _ _
  have bA : Below w.heap.size w (((w.alloc (.cells #[.int .u32 (PH.c : Nat), .int .i64 (PH.o : Nat), .int .i64 (PH.i : Nat), .int .i64 (PH.t : Nat), .int .u32 (PH.n : Nat)] 83)).alloc (.cells #[.int .u32 (PD.c : Nat), .int .i64 (PD.o : Nat), .int .i64 (PD.i : Nat), .int .i64 (PD.t : Nat), .int .u32 (PD.n : Nat)] 83)).alloc (.cells #[Value.pointer none, Value.pointer none, Value.pointer none] 69)) := belY (belY (belY (Below.refl _ w) _) _) _
  have kA : (((w.alloc (.cells #[.int .u32 (PH.c : Nat), .int .i64 (PH.o : Nat), .int .i64 (PH.i : Nat), .int .i64 (PH.t : Nat), .int .u32 (PH.n : Nat)] 83)).alloc (.cells #[.int .u32 (PD.c : Nat), .int .i64 (PD.o : Nat), .int .i64 (PD.i : Nat), .int .i64 (PD.t : Nat), .int .u32 (PD.n : Nat)] 83)).alloc (.cells #[Value.pointer none, Value.pointer none, Value.pointer none] 69)).heap[w.heap.size]? = some (.cells #[.int .u32 (PH.c : Nat), .int .i64 (PH.o : Nat), .int .i64 (PH.i : Nat), .int .i64 (PH.t : Nat), .int .u32 (PH.n : Nat)] 83 (0, 0)) := (Below.heap_alloc _ _ _ (by omega)).trans ((Below.heap_alloc _ _ _ (by omega)).trans (heap_alloc_new w _))
  have kB : (((w.alloc (.cells #[.int .u32 (PH.c : Nat), .int .i64 (PH.o : Nat), .int .i64 (PH.i : Nat), .int .i64 (PH.t : Nat), .int .u32 (PH.n : Nat)] 83)).alloc (.cells #[.int .u32 (PD.c : Nat), .int .i64 (PD.o : Nat), .int .i64 (PD.i : Nat), .int .i64 (PD.t : Nat), .int .u32 (PD.n : Nat)] 83)).alloc (.cells #[Value.pointer none, Value.pointer none, Value.pointer none] 69)).heap[w.heap.size + 1]? = some (.cells #[.int .u32 (PD.c : Nat), .int .i64 (PD.o : Nat), .int .i64 (PD.i : Nat), .int .i64 (PD.t : Nat), .int .u32 (PD.n : Nat)] 83 (0, 0)) := (Below.heap_alloc _ _ _ (by omega)).trans (by rw [← s1]; exact heap_alloc_new _ _)
  have kC : (((w.alloc (.cells #[.int .u32 (PH.c : Nat), .int .i64 (PH.o : Nat), .int .i64 (PH.i : Nat), .int .i64 (PH.t : Nat), .int .u32 (PH.n : Nat)] 83)).alloc (.cells #[.int .u32 (PD.c : Nat), .int .i64 (PD.o : Nat), .int .i64 (PD.i : Nat), .int .i64 (PD.t : Nat), .int .u32 (PD.n : Nat)] 83)).alloc (.cells #[Value.pointer none, Value.pointer none, Value.pointer none] 69)).heap[w.heap.size + 2]? = some (.cells #[Value.pointer none, Value.pointer none, Value.pointer none] 69 (0, 0)) := by rw [← s2]; exact heap_alloc_new _ _
  obtain ⟨wa, hwa⟩ : ∃ z, ((w.alloc (.cells #[.int .u32 (PH.c : Nat), .int .i64 (PH.o : Nat), .int .i64 (PH.i : Nat), .int .i64 (PH.t : Nat), .int .u32 (PH.n : Nat)] 83)).alloc (.cells #[.int .u32 (PD.c : Nat), .int .i64 (PD.o : Nat), .int .i64 (PD.i : Nat), .int .i64 (PD.t : Nat), .int .u32 (PD.n : Nat)] 83)).alloc (.cells #[Value.pointer none, Value.pointer none, Value.pointer none] 69) = z := ⟨_, rfl⟩
  obtain ⟨x, hxx⟩ : ∃ z, w.heap.size = z := ⟨_, rfl⟩
  rw [hwa] at kA kB kC bA s3
  have HB : Hid (Below w.heap.size w wa) := bA
  rw [hxx] at kA kB kC s3
  have q0 : wa.cell? ⟨x, 0, none⟩ = some (.int .u32 (PH.c : Nat)) := cell_of_row wa x 0 _ _ _ kA
  have q1 : wa.cell? ⟨x, 1, none⟩ = some (.int .i64 (PH.o : Nat)) := cell_of_row wa x 1 _ _ _ kA
  have q2 : wa.cell? ⟨x, 2, none⟩ = some (.int .i64 (PH.i : Nat)) := cell_of_row wa x 2 _ _ _ kA
  have q3 : wa.cell? ⟨x, 3, none⟩ = some (.int .i64 (PH.t : Nat)) := cell_of_row wa x 3 _ _ _ kA
  have q4 : wa.cell? ⟨x, 4, none⟩ = some (.int .u32 (PH.n : Nat)) := cell_of_row wa x 4 _ _ _ kA
  have hN1 := newH_any PH hH wa
  have HE : Hid (_ = wa) := hwa
  have HS : Hid (w.heap.size = x) := hxx
  have HKB : Hid (_) := kB
  have HKC : Hid (_) := kC
  have H3 : Hid (wa.heap.size = x + 3) := s3
  clear s1 s2 s3 bA kA kB kC hwa hxx
  go_enter Tryz.func37, Tryz.ntmps37
  go_upto_region 1 with fail
  rw [HE.out, HS.out]
  go_wp2_with fail
  refine hN1.mono ?_
  rintro r w1 ⟨h, rfl, H1⟩
  have b1 := H1.out.1
  have hN2 := new_ok 16 w1 (by omega)
  clear hN1 q0 q1 q2 q3 q4
  go_wp2_with fail
  refine hN2.mono ?_
  rintro r w2 ⟨m, g, rfl, H2⟩
  clear hN2
  obtain ⟨hm, hg, o2, M2⟩ := H2.out
  have b2 : Below w1.heap.size w1 w2 := o2.below (Below.refl _ _) (by simp) (Nat.le_refl _)
  have hN3 := made13 mx PD hD w1 w2 m g b2 hm hg M2 hx h0
  have b12 : Below wa.heap.size wa w2 := b1.trans (b2.mono b1.size)
  have kB2 := (b12.block (x + 1) (by rw [H3.out]; omega)).trans HKB.out
  have q0 : w2.cell? ⟨x + 1, 0, none⟩ = some (.int .u32 (PD.c : Nat)) := cell_of_row w2 (x + 1) 0 _ _ _ kB2
  have q1 : w2.cell? ⟨x + 1, 1, none⟩ = some (.int .i64 (PD.o : Nat)) := cell_of_row w2 (x + 1) 1 _ _ _ kB2
  have q2 : w2.cell? ⟨x + 1, 2, none⟩ = some (.int .i64 (PD.i : Nat)) := cell_of_row w2 (x + 1) 2 _ _ _ kB2
  have q3 : w2.cell? ⟨x + 1, 3, none⟩ = some (.int .i64 (PD.t : Nat)) := cell_of_row w2 (x + 1) 3 _ _ _ kB2
  have q4 : w2.cell? ⟨x + 1, 4, none⟩ = some (.int .u32 (PD.n : Nat)) := cell_of_row w2 (x + 1) 4 _ _ _ kB2
  have HX : Hid (_) := And.intro b1 b12
  clear hm hg o2 M2 b2 kB2 b1 b12
  go_wp2_with fail
  refine hN3.mono ?_
  rintro r w3 ⟨d, rfl, H4⟩
  clear hN3 q0 q1 q2 q3 q4
  obtain ⟨b1, b12⟩ := HX.out
  obtain ⟨dU, ow⟩ := H4.out
  have b3 : Below wa.heap.size wa w3 := b1.trans (ow.bel.mono b1.size)
  have kC3 := (b3.block (x + 2) (by rw [H3.out]; omega)).trans HKC.out
  have y0 := cell_of_row w3 (x + 2) 0 _ _ _ kC3
  have y1 := cell_of_row w3 (x + 2) 1 _ _ _ kC3
  have y2 := cell_of_row w3 (x + 2) 2 _ _ _ kC3
  have yz := fun k => frozen_of_row w3 (x + 2) k _ _ kC3
  have HF : Hid (_) := And.intro b1 (And.intro b3 (And.intro kC3 ow))
  clear b1 b12 ow b3 kC3 H4
  go_wp2_with fail
  refine bodyPost_ret (v := .agg #[.pointer (some ⟨h, 0, none⟩), .pointer (some ⟨d, 0, none⟩), .pointer (some ⟨m, 0, none⟩)]) (by simp [results, Tryz.results37, go_sem, y0, y1, y2]) rfl ?_
  obtain ⟨b1, b3, kC3, ow⟩ := HF.out
  obtain ⟨_, hU, v1, hUg⟩ := H1.out
  have hb0 := HB.out
  rw [HS.out] at hb0
  have hxa := H3.out
  have o : Off [x + 2] w3 (((w3.setCell ⟨x + 2, 0, none⟩ (.pointer (some ⟨h, 0, none⟩))).setCell ⟨x + 2, 1, none⟩ (.pointer (some ⟨d, 0, none⟩))).setCell ⟨x + 2, 2, none⟩ (.pointer (some ⟨m, 0, none⟩))) := ((Off.setCell (x + 2) 0 w3 _).trans (Off.setCell (x + 2) 1 _ _)).trans (Off.setCell (x + 2) 2 _ _)
  have l1 := b1.size
  have bw3 : Below w.heap.size w w3 := HB.out.trans (b3.mono (by rw [HS.out, H3.out]; omega))
  have v3 : HV w3 h PH hU hnew := HV.off v1 (l := []) (Off.of_below ow.bel) (by simp)
  refine ⟨h, d, m, g, rfl, o.below bw3 (by simp [HS.out]) bw3.size, hU, dU, HV.off v3 o (fun k hk hm => ?_), DV.offY ow.dv o (fun k hk hm => ?_), fun k hk => ?_, fun k hk => ?_, fun k hk hm => ?_⟩
  · have := hUg k hk
    simp at hm
    omega
  · have := ow.ge k hk
    simp at hm
    omega
  · have := hUg k hk
    rw [HS.out]
    omega
  · have := ow.ge k hk
    rw [HS.out]
    omega
  · have := ow.ge k hm
    have := HV.ult v1 k hk
    omega
end Go.Proofs.YtpbcgpdfjplidaaGreat
namespace Go.Proofs.YtpbcgpdfjplidaaGreat
set_option maxRecDepth 100000
open Go.RowKit Go.Maps
set_option maxRecDepth 100000
set_option linter.unusedVariables false
theorem info_parY : (Tryz.prog.info? 83).map (fun i => (i.zero, i.size, i.bytes)) = some (some (.agg #[.int .u32 0, .int .i64 0, .int .i64 0, .int .i64 0, .int .u32 0]), 5, 40) := by kernel_rfl
theorem Pm.cs_one (P : Pm) : ∀ u ∈ P.cs, u.oneCell' = true := by
  intro u hu
  simp [Pm.cs] at hu
  rcases hu with rfl | rfl | rfl | rfl | rfl <;> rfl
theorem Pm.cells {W : World} {g : Nat} {P : Pm} (h : W.heap[g]? = some (.cells #[.int .u32 (P.c : Nat), .int .i64 (P.o : Nat), .int .i64 (P.i : Nat), .int .i64 (P.t : Nat), .int .u32 (P.n : Nat)] 83 (0, 0))) : ∀ j u, P.cs[j]? = some u → W.cell? ((⟨g, 0, none⟩ : Addr).add j) = some u := fun j u hu => by
  have e : (Addr.add ⟨g, 0, none⟩ j) = ⟨g, j, none⟩ := by unfold Addr.add; simp; omega
  rw [e, cell_of_row W g j _ _ _ h]
  have : (#[.int .u32 (P.c : Nat), .int .i64 (P.o : Nat), .int .i64 (P.i : Nat), .int .i64 (P.t : Nat), .int .u32 (P.n : Nat)] : Array Value)[j]? = P.cs[j]? := by
    show (P.cs.toArray)[j]? = _
    simp
  rw [this]
  exact hu
set_option maxHeartbeats 1000000 in
theorem pgrow2 (w : World) : Calls Tryz.prog 70 #[.slice none 0 0, .int .i64 2] w fun r w' => ∃ a c, r = .returned (.slice a 0 c) ∧ Hid (w'.ownsRow w.heap.size 83 5 (.slice a 0 c) 0 [] ∧ Below w.heap.size w w') := by
  obtain ⟨i0, hI, hz0, hz1, hz2⟩ := info_parts info_parY
  have hold : (Builtin.firstCells i0.size 0 (.slice none 0 0)).run Tryz.prog w.drew = .ok ([] : List Value).toArray w.drew := run_firstCells_none _ _ _ _ _
  have hrz : ∀ ty, (Builtin.append_ #[49, 3] ty #[.slice none 0 0, .int .i64 2]).run Tryz.prog w = _ := fun ty => Lib.run_append_grow_zeros (P := Tryz.prog) w 49 3 ty 83 i0 _ .i64 .i64 Tryz.underlying49 Tryz.underlying3 hI hz0 none 0 0 [] hold 2 (by omega) (by rw [hz1]; omega) (by omega) (by omega) (by rw [hz2]; omega) (by rw [hz2]; decide)
  have hGn : 2 ≤ grownCap w 2 0 83 := grownCap_ge w _ _ _
  have hGm : grownCap w 2 0 83 ≤ maxLen := grownCap_le_maxLen w 2 0 _ (by unfold maxLen; omega)
  obtain ⟨G, hG⟩ : ∃ G, grownCap w 2 0 83 = G := ⟨_, rfl⟩
  simp only [Nat.zero_add] at hrz
  rw [hG] at hrz hGn hGm
  have hb : Below w.heap.size w w.drew := Below.drew (Below.refl _ _)
  have hs2 : (([] : List Value).toArray ++ Builtin.zeroCells (Value.agg #[.int .u32 0, .int .i64 0, .int .i64 0, .int .i64 0, .int .u32 0]).cells 2 ++ Builtin.zeroCells (Value.agg #[.int .u32 0, .int .i64 0, .int .i64 0, .int .i64 0, .int .u32 0]).cells (G - 2)).size = G * 5 := by
    simp [Builtin.zeroCells, Value.cells]
    omega
  obtain ⟨ZZ, hZZ⟩ : ∃ z, ([] : List Value).toArray ++ Builtin.zeroCells (Value.agg #[.int .u32 0, .int .i64 0, .int .i64 0, .int .i64 0, .int .u32 0]).cells 2 ++ Builtin.zeroCells (Value.agg #[.int .u32 0, .int .i64 0, .int .i64 0, .int .i64 0, .int .u32 0]).cells (G - 2) = z := ⟨_, rfl⟩
  rw [hZZ] at hrz hs2
  have hG63 : G ≤ 9223372036854775807 := by unfold maxLen at hGm; omega
  have ho : (w.drew.alloc (.cells ZZ 83)).ownsRow w.heap.size 83 5 (.slice (some ⟨w.drew.heap.size, 0, none⟩) 0 G) 0 [] := World.ownsRow_made w.drew ZZ G (Nat.le_refl _) hGm hs2
  have HF : Hid (_) := And.intro ho (belY hb (.cells ZZ 83))
  clear hold hG hb hs2 hZZ ho hGm
  go_enter Tryz.func70, Tryz.ntmps70
  go_wp2_with (at_builtin; refine Lib.wpList_append_run _ rfl _ _ _ _ rfl _ _ rfl rfl _ _ (hrz _) ?_)
  go_ret
  exact ⟨_, _, rfl, HF.out⟩
set_option maxHeartbeats 2000000 in
theorem pconcat2 (P Q : Pm) (s q0 q1 : Nat) (w : World) (hs : w.heap[s]? = some (.cells #[.slice (some ⟨q0, 0, none⟩) 1 1, .slice (some ⟨q1, 0, none⟩) 1 1] 49 (0, 0))) (h0 : w.heap[q0]? = some (.cells #[.int .u32 (P.c : Nat), .int .i64 (P.o : Nat), .int .i64 (P.i : Nat), .int .i64 (P.t : Nat), .int .u32 (P.n : Nat)] 83 (0, 0))) (h1 : w.heap[q1]? = some (.cells #[.int .u32 (Q.c : Nat), .int .i64 (Q.o : Nat), .int .i64 (Q.i : Nat), .int .i64 (Q.t : Nat), .int .u32 (Q.n : Nat)] 83 (0, 0))) : Calls Tryz.prog 52 #[.slice (some ⟨s, 0, none⟩) 2 2] w fun r w' => ∃ a c, r = .returned (.slice a 2 c) ∧ Hid (w'.ownsRow w.heap.size 83 5 (.slice a 2 c) 2 (P.cs ++ Q.cs) ∧ Below w.heap.size w w') := by
  obtain ⟨i0, hI, hz0, hz1, hz2⟩ := info_parts info_parY
  have c0 := cell_of_row w s 0 _ _ _ hs
  have c1 := cell_of_row w s 1 _ _ _ hs
  have hG := pgrow2 w
  have ls := (Array.getElem?_eq_some_iff.1 hs).1
  have l0 := (Array.getElem?_eq_some_iff.1 h0).1
  have l1 := (Array.getElem?_eq_some_iff.1 h1).1
  have H0 : Hid (_) := And.intro ls (And.intro l0 l1)
  have Hs : Hid (_) := hs
  have Hp : Hid (_) := h0
  have Hq : Hid (_) := h1
  clear hs h0 h1 ls l0 l1
  go_enter Tryz.func52, Tryz.ntmps52
  go_wp2_with fail
  refine wp_loop_rounds 3 ?_
  rw [rounds_succ]
  go_wp2_with fail
  rw [rounds_succ]
  go_wp2_with fail
  rw [rounds_succ]
  go_wp2_with fail
  refine hG.mono ?_
  rintro r w1 ⟨a, c, rfl, H1⟩
  have oA := H1.out.1
  have b1 := H1.out.2
  have d0 := cell_of_row w1 s 0 _ _ _ ((b1.block s H0.out.1).trans Hs.out)
  have d1 := cell_of_row w1 s 1 _ _ _ ((b1.block s H0.out.1).trans Hs.out)
  have sA := Pm.cells ((b1.block q0 H0.out.2.1).trans Hp.out)
  have zA : w.heap.size ≤ w1.heap.size := b1.size
  have HB1 : Hid (_) := b1
  clear b1 hG c0 c1
  go_wp2_with fail
  refine wp_loop_rounds 3 ?_
  rw [rounds_succ]
  go_wp2_with (at_builtin; refine wpList_append_own_at _ rfl _ _ 49 rfl w.heap.size 83 i0 (.agg #[.int .u32 0, .int .i64 0, .int .i64 0, .int .i64 0, .int .u32 0]) 5 40 Tryz.underlying49 hI hz0 hz1 hz2 rfl (by decide) (.slice a 0 c) 0 [] rfl oA ⟨q0, 0, none⟩ 1 1 P.cs rfl rfl sA P.cs_one (by unfold maxLen; omega) (by omega) zA ?_)
  intro v2 w2 o2 g2 _ _
  obtain ⟨a2, c2, rfl⟩ := own_shape o2
  have b2 := HB1.out.grown g2 zA (fun k hk => (oA.lt k hk).1)
  have e0 := cell_of_row w2 s 0 _ _ _ ((b2.block s H0.out.1).trans Hs.out)
  have e1 := cell_of_row w2 s 1 _ _ _ ((b2.block s H0.out.1).trans Hs.out)
  have sB := Pm.cells ((b2.block q1 H0.out.2.2).trans Hq.out)
  have zB : w.heap.size ≤ w2.heap.size := b2.size
  have HB2 : Hid (_) := b2
  clear oA sA zA d0 d1 b2 g2
  go_wp2_with fail
  rw [rounds_succ]
  go_wp2_with (at_builtin; refine wpList_append_own_at _ rfl _ _ 49 rfl w.heap.size 83 i0 (.agg #[.int .u32 0, .int .i64 0, .int .i64 0, .int .i64 0, .int .u32 0]) 5 40 Tryz.underlying49 hI hz0 hz1 hz2 rfl (by decide) (.slice a2 1 c2) 1 P.cs rfl o2 ⟨q1, 0, none⟩ 1 1 Q.cs rfl rfl sB Q.cs_one (by unfold maxLen; omega) (by omega) zB ?_)
  intro v3 w3 o3 g3 _ _
  obtain ⟨a3, c3, rfl⟩ := own_shape o3
  have HF : Hid (_) := And.intro o3 (HB2.out.grown g3 zB (fun k hk => (o2.lt k hk).1))
  have f1 := cell_of_row w3 s 1 _ _ _ ((HF.out.2.block s H0.out.1).trans Hs.out)
  clear o2 o3 sB zB e0 e1 g3
  go_wp2_with fail
  rw [rounds_succ]
  go_wp2_with fail
  go_ret
  exact ⟨_, _, rfl, HF.out⟩
set_option maxHeartbeats 1000000 in
theorem pindex0 (b : Option Addr) (c : Nat) (f : Value) (w : World) : Calls Tryz.prog 94 #[.slice b 0 c, f] w fun r w' => r = .returned (.int .i64 (-1)) ∧ w' = w := by
  go_enter Tryz.func94, Tryz.ntmps94
  go_wp2_with fail
  refine wp_loop_rounds 1 ?_
  rw [rounds_succ]
  go_wp2_with fail
  go_ret
  exact ⟨rfl, rfl⟩
set_option maxHeartbeats 1000000 in
theorem pcontains0 (b : Option Addr) (c : Nat) (f : Value) (w : World) : Calls Tryz.prog 73 #[.slice b 0 c, f] w fun r w' => r = .returned (.bool false) ∧ w' = w := by
  have hI := pindex0 b c f w
  go_enter Tryz.func73, Tryz.ntmps73
  go_wp2_with fail
  refine hI.mono ?_
  rintro r w2 ⟨rfl, rfl⟩
  go_wp2_with fail
  go_ret
  exact ⟨rfl, rfl⟩
set_option maxHeartbeats 1000000 in
theorem pdoubled1 (P : Pm) (q : Nat) (w : World) (h : w.heap[q]? = some (.cells #[.int .u32 (P.c : Nat), .int .i64 (P.o : Nat), .int .i64 (P.i : Nat), .int .i64 (P.t : Nat), .int .u32 (P.n : Nat)] 83 (0, 0))) : Calls Tryz.prog 54 #[.slice (some ⟨q, 0, none⟩) 1 1] w fun r w' => r = .returned (.bool false) ∧ Below w.heap.size w w' := by
  have c0 : w.cell? ⟨q, 0, none⟩ = some (.int .u32 (P.c : Nat)) := cell_of_row w q 0 _ _ _ h
  have c1 : w.cell? ⟨q, 1, none⟩ = some (.int .i64 (P.o : Nat)) := cell_of_row w q 1 _ _ _ h
  have c2 : w.cell? ⟨q, 2, none⟩ = some (.int .i64 (P.i : Nat)) := cell_of_row w q 2 _ _ _ h
  have c3 : w.cell? ⟨q, 3, none⟩ = some (.int .i64 (P.t : Nat)) := cell_of_row w q 3 _ _ _ h
  have c4 : w.cell? ⟨q, 4, none⟩ = some (.int .u32 (P.n : Nat)) := cell_of_row w q 4 _ _ _ h
  have bA := belY (Below.refl _ w) (.cells #[.int .u32 (P.c : Nat), .int .i64 (P.o : Nat), .int .i64 (P.i : Nat), .int .i64 (P.t : Nat), .int .u32 (P.n : Nat)] 83)
  have HF : Hid (_) := bA
  have hC := pcontains0
  clear bA h
  go_enter Tryz.func54, Tryz.ntmps54
  go_wp2_with fail
  refine wp_loop_rounds 2 ?_
  rw [rounds_succ]
  go_wp2_with fail
  refine (hC _ _ _ _).mono ?_
  rintro r w2 ⟨rfl, rfl⟩
  go_wp2_with fail
  rw [rounds_succ]
  go_wp2_with fail
  go_ret
  exact ⟨rfl, HF.out⟩
end Go.Proofs.YtpbcgpdfjplidaaGreat
