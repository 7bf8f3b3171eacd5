/- Part 52 of the texts on which the proof rests: contracts of Go functions. -/
import Derived.Test.YtpbcgpdfjplidaaGreatPkN45
import Derived.Test.YtpbcgpdfjplidaaGreatPkN50
namespace Go.Proofs.YtpbcgpdfjplidaaGreat
set_option maxRecDepth 100000
open Go.RowKit Go.Maps
set_option maxRecDepth 100000
set_option linter.unusedVariables false
theorem note_bg (S : Ws) (l : List Fa) : (S.note l).bg = S.bg := rfl
theorem note_mv (S : Ws) (l : List Fa) : (S.note l).mv = S.mv := rfl
set_option maxHeartbeats 4000000 in
theorem awake17 (w : World) : Calls Tryz.prog 4 #[] w fun r w' => r = .returned (.bool true) ∧ Below w.heap.size w w' := by
  have hLo := plone w
  go_enter Tryz.func4, Tryz.ntmps4
  go_wp2_with fail
  refine hLo.mono ?_
  rintro r w1 ⟨q0, q1, rfl, H1⟩
  clear hLo
  have hN : Calls Tryz.prog 17 #[.agg #[.slice (some ⟨q0, 0, none⟩) 1 1, .slice (some ⟨q1, 0, none⟩) 1 1, .int .u32 50]] w1 fun r w' => ∃ L : Pw, r = .returned (.tuple #[.pointer (some ⟨L.x, 0, none⟩), .int .i64 0]) ∧ Hid (PW ev w1 w' (evT L) L ∧ L.S = s0 P0 P0 50) := pnewL P0 P0 P0_ok P0_ok q0 q1 50 (by decide) (by decide) w1 H1.out.1 H1.out.2.1
  go_wp2_with fail
  refine hN.mono ?_
  rintro r w2 ⟨L, rfl, H2⟩
  clear hN
  have hP1 := aw1 H2.out.1 (evT_fre L) H2.out.2
  obtain ⟨X, hX⟩ : ∃ y, L.x = y := ⟨_, rfl⟩
  rw [hX] at hP1 ⊢
  have HX : Hid (L.x = X) := hX
  clear hX
  go_wp2_with fail
  refine hP1.mono ?_
  rintro r w3 ⟨A, rfl, hsA, hoA, hA10, H3⟩
  clear hP1
  have kr1 := heap_alloc_new w3 (.cells #[.int .i64 0, .int .i64 0, .int .i64 0, .int .i64 0, .int .i64 0, .int .u32 0, .int .i64 0, .bool false, .slice none 0 0, .int .i64 0, .int .i64 0, .int .i64 0, .int .u32 0, .int .u32 0, .int .u32 0, .int .i64 0, .int .i64 0, .bool false, .bool false, .slice none 0 0, .int .i64 0, .int .u32 0, .int .u32 0, .int .u32 0, .int .i64 0, .int .i64 0, .bool false, .bool false, .slice none 0 0] 35)
  have hth1 : (w3.alloc (.cells #[.int .i64 0, .int .i64 0, .int .i64 0, .int .i64 0, .int .i64 0, .int .u32 0, .int .i64 0, .bool false, .slice none 0 0, .int .i64 0, .int .i64 0, .int .i64 0, .int .u32 0, .int .u32 0, .int .u32 0, .int .i64 0, .int .i64 0, .bool false, .bool false, .slice none 0 0, .int .i64 0, .int .u32 0, .int .u32 0, .int .u32 0, .int .i64 0, .int .i64 0, .bool false, .bool false, .slice none 0 0] 35)).there w3.heap.size 0 A.size := there_row kr1 (by rw [hsA]; rfl)
  have hrg1 := World.rangeAt_setCells_same (w3.alloc (.cells #[.int .i64 0, .int .i64 0, .int .i64 0, .int .i64 0, .int .i64 0, .int .u32 0, .int .i64 0, .bool false, .slice none 0 0, .int .i64 0, .int .i64 0, .int .i64 0, .int .u32 0, .int .u32 0, .int .u32 0, .int .i64 0, .int .i64 0, .bool false, .bool false, .slice none 0 0, .int .i64 0, .int .u32 0, .int .u32 0, .int .u32 0, .int .i64 0, .int .i64 0, .bool false, .bool false, .slice none 0 0] 35)) w3.heap.size 0 A.toList (by simpa using hth1)
  have hof1 := off_setCells (w3.alloc (.cells #[.int .i64 0, .int .i64 0, .int .i64 0, .int .i64 0, .int .i64 0, .int .u32 0, .int .i64 0, .bool false, .slice none 0 0, .int .i64 0, .int .i64 0, .int .i64 0, .int .u32 0, .int .u32 0, .int .u32 0, .int .i64 0, .int .i64 0, .bool false, .bool false, .slice none 0 0, .int .i64 0, .int .u32 0, .int .u32 0, .int .u32 0, .int .i64 0, .int .i64 0, .bool false, .bool false, .slice none 0 0] 35)) w3.heap.size 0 A.toList
  have hst1 : (storeCells ⟨w3.heap.size, 0, none⟩ A.toList).run Tryz.prog (w3.alloc (.cells #[.int .i64 0, .int .i64 0, .int .i64 0, .int .i64 0, .int .i64 0, .int .u32 0, .int .i64 0, .bool false, .slice none 0 0, .int .i64 0, .int .i64 0, .int .i64 0, .int .u32 0, .int .u32 0, .int .u32 0, .int .i64 0, .int .i64 0, .bool false, .bool false, .slice none 0 0, .int .i64 0, .int .u32 0, .int .u32 0, .int .u32 0, .int .i64 0, .int .i64 0, .bool false, .bool false, .slice none 0 0] 35)) = .ok () ((w3.alloc (.cells #[.int .i64 0, .int .i64 0, .int .i64 0, .int .i64 0, .int .i64 0, .int .u32 0, .int .i64 0, .bool false, .slice none 0 0, .int .i64 0, .int .i64 0, .int .i64 0, .int .u32 0, .int .u32 0, .int .u32 0, .int .i64 0, .int .i64 0, .bool false, .bool false, .slice none 0 0, .int .i64 0, .int .u32 0, .int .u32 0, .int .u32 0, .int .i64 0, .int .i64 0, .bool false, .bool false, .slice none 0 0] 35)).setCells w3.heap.size 0 A.toList) := storeY_run hth1 hoA
  have hbl1 : Below w3.heap.size w3 ((w3.alloc (.cells #[.int .i64 0, .int .i64 0, .int .i64 0, .int .i64 0, .int .i64 0, .int .u32 0, .int .i64 0, .bool false, .slice none 0 0, .int .i64 0, .int .i64 0, .int .i64 0, .int .u32 0, .int .u32 0, .int .u32 0, .int .i64 0, .int .i64 0, .bool false, .bool false, .slice none 0 0, .int .i64 0, .int .u32 0, .int .u32 0, .int .u32 0, .int .i64 0, .int .i64 0, .bool false, .bool false, .slice none 0 0] 35)).setCells w3.heap.size 0 A.toList) := hof1.below (belY (Below.refl _ _) _) (by simp) (by rw [sz1]; omega)
  obtain ⟨wz, hw1⟩ : ∃ z, (w3.alloc (.cells #[.int .i64 0, .int .i64 0, .int .i64 0, .int .i64 0, .int .i64 0, .int .u32 0, .int .i64 0, .bool false, .slice none 0 0, .int .i64 0, .int .i64 0, .int .i64 0, .int .u32 0, .int .u32 0, .int .u32 0, .int .i64 0, .int .i64 0, .bool false, .bool false, .slice none 0 0, .int .i64 0, .int .u32 0, .int .u32 0, .int .u32 0, .int .i64 0, .int .i64 0, .bool false, .bool false, .slice none 0 0] 35)).setCells w3.heap.size 0 A.toList = z := ⟨_, rfl⟩
  rw [hw1] at hst1 hrg1 hbl1
  have cb : wz.cell? ⟨w3.heap.size, 10, none⟩ = some (.int .i64 0) := hrg1 10 _ hA10
  have lb := World.block_lt_of_cell? wz _ cb
  obtain ⟨ob, hob⟩ : ∃ ob, wz.heap[w3.heap.size]? = some ob := ⟨_, Array.getElem?_eq_getElem lb⟩
  have F0 := evT_fre L
  have hp2 := H3.out.layL hbl1 (i := 2 * 0 + 1) (F0 0 (Nat.le_refl _)).1 (l := [(w3.heap.size, ob)]) (fun p hp => by
    simp only [List.mem_cons, List.not_mem_nil, or_false] at hp
    subst hp
    exact hob) (fun p hp => by
    simp only [List.mem_cons, List.not_mem_nil, or_false] at hp
    subst hp
    exact Nat.le_refl _)
  have F1 : Fre ev (putT (evT L) (2 * 0 + 1) (blT [(w3.heap.size, ob)])) 1 := F0.put _
  have hP2 := aw2 (T := aS1) a1.2.2 hp2 F1
  rw [HX.out] at hP2
  have HB : Hid (_) := And.intro cb (And.intro hob (And.intro hbl1 F0))
  clear kr1 hth1 hrg1 hof1 hbl1 hw1 cb lb hob hp2 F1 F0
  go_wp2_with fail
  refine hP2.mono ?_
  rintro r w4 ⟨A2, rfl, hsA2, hoA2, hB10, hB20, H4⟩
  clear hP2 hst1
  have kr2 := heap_alloc_new w4 (.cells #[.int .i64 0, .int .i64 0, .int .i64 0, .int .i64 0, .int .i64 0, .int .u32 0, .int .i64 0, .bool false, .slice none 0 0, .int .i64 0, .int .i64 0, .int .i64 0, .int .u32 0, .int .u32 0, .int .u32 0, .int .i64 0, .int .i64 0, .bool false, .bool false, .slice none 0 0, .int .i64 0, .int .u32 0, .int .u32 0, .int .u32 0, .int .i64 0, .int .i64 0, .bool false, .bool false, .slice none 0 0] 35)
  have hth2 : (w4.alloc (.cells #[.int .i64 0, .int .i64 0, .int .i64 0, .int .i64 0, .int .i64 0, .int .u32 0, .int .i64 0, .bool false, .slice none 0 0, .int .i64 0, .int .i64 0, .int .i64 0, .int .u32 0, .int .u32 0, .int .u32 0, .int .i64 0, .int .i64 0, .bool false, .bool false, .slice none 0 0, .int .i64 0, .int .u32 0, .int .u32 0, .int .u32 0, .int .i64 0, .int .i64 0, .bool false, .bool false, .slice none 0 0] 35)).there w4.heap.size 0 A2.size := there_row kr2 (by rw [hsA2]; rfl)
  have hrg2 := World.rangeAt_setCells_same (w4.alloc (.cells #[.int .i64 0, .int .i64 0, .int .i64 0, .int .i64 0, .int .i64 0, .int .u32 0, .int .i64 0, .bool false, .slice none 0 0, .int .i64 0, .int .i64 0, .int .i64 0, .int .u32 0, .int .u32 0, .int .u32 0, .int .i64 0, .int .i64 0, .bool false, .bool false, .slice none 0 0, .int .i64 0, .int .u32 0, .int .u32 0, .int .u32 0, .int .i64 0, .int .i64 0, .bool false, .bool false, .slice none 0 0] 35)) w4.heap.size 0 A2.toList (by simpa using hth2)
  have hof2 := off_setCells (w4.alloc (.cells #[.int .i64 0, .int .i64 0, .int .i64 0, .int .i64 0, .int .i64 0, .int .u32 0, .int .i64 0, .bool false, .slice none 0 0, .int .i64 0, .int .i64 0, .int .i64 0, .int .u32 0, .int .u32 0, .int .u32 0, .int .i64 0, .int .i64 0, .bool false, .bool false, .slice none 0 0, .int .i64 0, .int .u32 0, .int .u32 0, .int .u32 0, .int .i64 0, .int .i64 0, .bool false, .bool false, .slice none 0 0] 35)) w4.heap.size 0 A2.toList
  have hst2 : (storeCells ⟨w4.heap.size, 0, none⟩ A2.toList).run Tryz.prog (w4.alloc (.cells #[.int .i64 0, .int .i64 0, .int .i64 0, .int .i64 0, .int .i64 0, .int .u32 0, .int .i64 0, .bool false, .slice none 0 0, .int .i64 0, .int .i64 0, .int .i64 0, .int .u32 0, .int .u32 0, .int .u32 0, .int .i64 0, .int .i64 0, .bool false, .bool false, .slice none 0 0, .int .i64 0, .int .u32 0, .int .u32 0, .int .u32 0, .int .i64 0, .int .i64 0, .bool false, .bool false, .slice none 0 0] 35)) = .ok () ((w4.alloc (.cells #[.int .i64 0, .int .i64 0, .int .i64 0, .int .i64 0, .int .i64 0, .int .u32 0, .int .i64 0, .bool false, .slice none 0 0, .int .i64 0, .int .i64 0, .int .i64 0, .int .u32 0, .int .u32 0, .int .u32 0, .int .i64 0, .int .i64 0, .bool false, .bool false, .slice none 0 0, .int .i64 0, .int .u32 0, .int .u32 0, .int .u32 0, .int .i64 0, .int .i64 0, .bool false, .bool false, .slice none 0 0] 35)).setCells w4.heap.size 0 A2.toList) := storeY_run hth2 hoA2
  have hbl2 : Below w4.heap.size w4 ((w4.alloc (.cells #[.int .i64 0, .int .i64 0, .int .i64 0, .int .i64 0, .int .i64 0, .int .u32 0, .int .i64 0, .bool false, .slice none 0 0, .int .i64 0, .int .i64 0, .int .i64 0, .int .u32 0, .int .u32 0, .int .u32 0, .int .i64 0, .int .i64 0, .bool false, .bool false, .slice none 0 0, .int .i64 0, .int .u32 0, .int .u32 0, .int .u32 0, .int .i64 0, .int .i64 0, .bool false, .bool false, .slice none 0 0] 35)).setCells w4.heap.size 0 A2.toList) := hof2.below (belY (Below.refl _ _) _) (by simp) (by rw [sz1]; omega)
  obtain ⟨wy, hw2⟩ : ∃ z, (w4.alloc (.cells #[.int .i64 0, .int .i64 0, .int .i64 0, .int .i64 0, .int .i64 0, .int .u32 0, .int .i64 0, .bool false, .slice none 0 0, .int .i64 0, .int .i64 0, .int .i64 0, .int .u32 0, .int .u32 0, .int .u32 0, .int .i64 0, .int .i64 0, .bool false, .bool false, .slice none 0 0, .int .i64 0, .int .u32 0, .int .u32 0, .int .u32 0, .int .i64 0, .int .i64 0, .bool false, .bool false, .slice none 0 0] 35)).setCells w4.heap.size 0 A2.toList = z := ⟨_, rfl⟩
  rw [hw2] at hst2 hrg2 hbl2
  have c1 : wy.cell? ⟨w4.heap.size, 10, none⟩ = some (.int .i64 1) := hrg2 10 _ hB10
  have c2 : wy.cell? ⟨w4.heap.size, 20, none⟩ = some (.int .i64 2) := hrg2 20 _ hB20
  obtain ⟨cb, hob, hbl1, F0⟩ := HB.out
  have hb4 := H4.out.box (q := 2 * 0 + 1) (F0 0 (Nat.le_refl _)).1 (putT_same _ _ _) _ (List.mem_cons_self ..)
  have hb5 := (hbl2.block w3.heap.size (Array.getElem?_eq_some_iff.1 hb4).1).trans hb4
  have c0 : wy.cell? ⟨w3.heap.size, 10, none⟩ = some (.int .i64 0) := (World.cell?_of_block (w := wz) (a := ⟨w3.heap.size, 10, none⟩) (hb5.trans hob.symm)).trans cb
  have hp5 := H4.out.below hbl2
  have hFr := pframes hp5
  have hMo := pmoves hp5
  obtain ⟨_, _, e1, e2, _⟩ := a3 (T := aS1) a1.2.2
  rw [HX.out, note_bg, e1] at hFr
  rw [HX.out, note_mv, e2] at hMo
  have hbw : Below w1.heap.size w1 wy := by
    obtain ⟨t9, L9, h9, _⟩ := hp5
    exact h9.1.bel
  have HE : Hid (Below w.heap.size w wy) := H1.out.2.2.trans (hbw.mono H1.out.2.2.size)
  clear kr2 hth2 hrg2 hof2 hbl2 hw2 cb hob hbl1 F0 hb4 hb5 hp5 e1 e2 hbw HB H4 H3 H2 HX
  go_wp2_with fail
  refine hFr.mono ?_
  rintro r w6 ⟨rfl, rfl⟩
  go_wp2_with fail
  refine hMo.mono ?_
  rintro r w6 ⟨rfl, rfl⟩
  go_wp2_with fail
  go_ret
  exact ⟨rfl, HE.out⟩
theorem wpList_loadAG {P : Program} {ops : Array Oper} {rest : List Oper} {op : Oper} {a : Act} {w : World} {Q : Exit → Act → World → Prop} (hw : Region.wanted op (yielded ops a.tmps) = true) (ty : TypeId) (x : Operand) (ho : op.op = .load ty x)
    (b o : Nat) (hx : a.eval x = .pointer (some ⟨b, o, none⟩)) (A : Array Value) (d : TypeDesc) (hc : w.rangeAt b o A.toList)
    (hu : P.underlying ty = some d) (hd : d.isRow = true) (hi : (P.info? ty).map (·.size) = some A.size)
    (h : wpList P ops Q rest (a.put op.dst (.agg A)) w) : wpList P ops Q (op :: rest) a w :=
  wpList_load_midG hw ty x ho b o hx A.toList d hc hu hd (by simpa using hi) (by simpa using h)
theorem pplayA (m : Mv) (d : Option Addr) (c : Nat) (w : World) : Calls Tryz.prog 5 #[.pointer none, .agg #[.int .i64 m.k, .int .i64 m.c, .int .i64 m.s, .int .i64 m.f, .int .i64 m.a, .int .u32 (m.w : Nat), .int .i64 m.n, .bool m.h, .slice d m.l c]] w fun r w' => ∃ A : Array Value, r = .returned (.tuple #[.agg A, .int .i64 1]) ∧ A.size = 29 ∧ A.all (·.oneCell') = true ∧ Hid (A = #[.int .i64 0, .int .i64 0, .int .i64 0, .int .i64 0, .int .i64 0, .int .u32 0, .int .i64 0, .bool false, .slice none 0 0, .int .i64 0, .int .i64 0, .int .i64 0, .int .u32 0, .int .u32 0, .int .u32 0, .int .i64 0, .int .i64 0, .bool false, .bool false, .slice none 0 0, .int .i64 0, .int .u32 0, .int .u32 0, .int .u32 0, .int .i64 0, .int .i64 0, .bool false, .bool false, .slice none 0 0] ∧ Below w.heap.size w w') := by
  refine (pplayN m d c w).mono ?_
  rintro r w' ⟨rfl, b⟩
  exact ⟨_, rfl, rfl, by kernel_rfl, rfl, b⟩
set_option maxHeartbeats 8000000 in
theorem worldNil_any (m : Mv) (d : Option Addr) (c : Nat) (w : World) (R : Row8 w d m.l c m.b) (hl : m.l ≤ 140737488351232) : Calls Tryz.prog 3 #[.agg #[.int .i64 m.k, .int .i64 m.c, .int .i64 m.s, .int .i64 m.f, .int .i64 m.a, .int .u32 (m.w : Nat), .int .i64 m.n, .bool m.h, .slice d m.l c]] w fun r w' => r = .returned (.bool true) ∧ Below w.heap.size w w' := by
  have kA := heap_alloc_new w (.cells #[.int .i64 m.k, .int .i64 m.c, .int .i64 m.s, .int .i64 m.f, .int .i64 m.a, .int .u32 (m.w : Nat), .int .i64 m.n, .bool m.h, .slice d m.l c] 27)
  have bA := belY (Below.refl _ w) (.cells #[.int .i64 m.k, .int .i64 m.c, .int .i64 m.s, .int .i64 m.f, .int .i64 m.a, .int .u32 (m.w : Nat), .int .i64 m.n, .bool m.h, .slice d m.l c] 27)
  obtain ⟨wa, hwa⟩ : ∃ z, w.alloc (.cells #[.int .i64 m.k, .int .i64 m.c, .int .i64 m.s, .int .i64 m.f, .int .i64 m.a, .int .u32 (m.w : Nat), .int .i64 m.n, .bool m.h, .slice d m.l c] 27) = z := ⟨_, rfl⟩
  obtain ⟨x, hx⟩ : ∃ z, w.heap.size = z := ⟨_, rfl⟩
  rw [hwa] at kA bA
  have Ra := R.below bA
  have HB : Hid (Below w.heap.size w wa) := bA
  rw [hx] at kA
  have hAw := awake17 wa
  have HK : Hid (wa.heap[x]? = some (.cells #[.int .i64 m.k, .int .i64 m.c, .int .i64 m.s, .int .i64 m.f, .int .i64 m.a, .int .u32 (m.w : Nat), .int .i64 m.n, .bool m.h, .slice d m.l c] 27 (0, 0))) := kA
  have HR : Hid (_) := Ra
  have HE : Hid (_ = wa) := hwa
  have HS : Hid (w.heap.size = x) := hx
  have HL : Hid (m.l ≤ 140737488351232) := hl
  clear kA bA hwa hx Ra R hl
  go_enter Tryz.func3, Tryz.ntmps3
  go_upto_region 1 with fail
  rw [HE.out, HS.out]
  go_wp2_with fail
  refine hAw.mono ?_
  rintro r w1 ⟨rfl, b1⟩
  clear hAw
  have lx : x < wa.heap.size := (Array.getElem?_eq_some_iff.1 HK.out).1
  have k1 := (b1.block x lx).trans HK.out
  have q0 : w1.cell? ⟨x, 0, none⟩ = some (.int .i64 m.k) := cell_of_row w1 x 0 _ _ _ k1
  have q1 : w1.cell? ⟨x, 1, none⟩ = some (.int .i64 m.c) := cell_of_row w1 x 1 _ _ _ k1
  have q2 : w1.cell? ⟨x, 2, none⟩ = some (.int .i64 m.s) := cell_of_row w1 x 2 _ _ _ k1
  have q3 : w1.cell? ⟨x, 3, none⟩ = some (.int .i64 m.f) := cell_of_row w1 x 3 _ _ _ k1
  have q4 : w1.cell? ⟨x, 4, none⟩ = some (.int .i64 m.a) := cell_of_row w1 x 4 _ _ _ k1
  have q5 : w1.cell? ⟨x, 5, none⟩ = some (.int .u32 (m.w : Nat)) := cell_of_row w1 x 5 _ _ _ k1
  have q6 : w1.cell? ⟨x, 6, none⟩ = some (.int .i64 m.n) := cell_of_row w1 x 6 _ _ _ k1
  have q7 : w1.cell? ⟨x, 7, none⟩ = some (.bool m.h) := cell_of_row w1 x 7 _ _ _ k1
  have q8 : w1.cell? ⟨x, 8, none⟩ = some (.slice d m.l c) := cell_of_row w1 x 8 _ _ _ k1
  have hCo := pcopyY m d c w1 (HR.out.below b1) HL.out
  have HB1 : Hid (_) := And.intro b1 lx
  clear b1 k1 lx
  go_wp2_with fail
  refine hCo.mono ?_
  rintro r w2 ⟨a', c', rfl, H2⟩
  clear hCo q0 q1 q2 q3 q4 q5 q6 q7 q8
  have hPl := pplayA m a' c' w2
  go_wp2_with fail
  refine hPl.mono ?_
  rintro r w3 ⟨A, rfl, hsA, hoA, H3⟩
  clear hPl
  have kr1 := heap_alloc_new w3 (.cells #[.int .i64 0, .int .i64 0, .int .i64 0, .int .i64 0, .int .i64 0, .int .u32 0, .int .i64 0, .bool false, .slice none 0 0, .int .i64 0, .int .i64 0, .int .i64 0, .int .u32 0, .int .u32 0, .int .u32 0, .int .i64 0, .int .i64 0, .bool false, .bool false, .slice none 0 0, .int .i64 0, .int .u32 0, .int .u32 0, .int .u32 0, .int .i64 0, .int .i64 0, .bool false, .bool false, .slice none 0 0] 35)
  have hth1 : (w3.alloc (.cells #[.int .i64 0, .int .i64 0, .int .i64 0, .int .i64 0, .int .i64 0, .int .u32 0, .int .i64 0, .bool false, .slice none 0 0, .int .i64 0, .int .i64 0, .int .i64 0, .int .u32 0, .int .u32 0, .int .u32 0, .int .i64 0, .int .i64 0, .bool false, .bool false, .slice none 0 0, .int .i64 0, .int .u32 0, .int .u32 0, .int .u32 0, .int .i64 0, .int .i64 0, .bool false, .bool false, .slice none 0 0] 35)).there w3.heap.size 0 A.size := there_row kr1 (by rw [hsA]; rfl)
  have hrg1 := World.rangeAt_setCells_same (w3.alloc (.cells #[.int .i64 0, .int .i64 0, .int .i64 0, .int .i64 0, .int .i64 0, .int .u32 0, .int .i64 0, .bool false, .slice none 0 0, .int .i64 0, .int .i64 0, .int .i64 0, .int .u32 0, .int .u32 0, .int .u32 0, .int .i64 0, .int .i64 0, .bool false, .bool false, .slice none 0 0, .int .i64 0, .int .u32 0, .int .u32 0, .int .u32 0, .int .i64 0, .int .i64 0, .bool false, .bool false, .slice none 0 0] 35)) w3.heap.size 0 A.toList (by simpa using hth1)
  have hof1 := off_setCells (w3.alloc (.cells #[.int .i64 0, .int .i64 0, .int .i64 0, .int .i64 0, .int .i64 0, .int .u32 0, .int .i64 0, .bool false, .slice none 0 0, .int .i64 0, .int .i64 0, .int .i64 0, .int .u32 0, .int .u32 0, .int .u32 0, .int .i64 0, .int .i64 0, .bool false, .bool false, .slice none 0 0, .int .i64 0, .int .u32 0, .int .u32 0, .int .u32 0, .int .i64 0, .int .i64 0, .bool false, .bool false, .slice none 0 0] 35)) w3.heap.size 0 A.toList
  have hst1 : (storeCells ⟨w3.heap.size, 0, none⟩ A.toList).run Tryz.prog (w3.alloc (.cells #[.int .i64 0, .int .i64 0, .int .i64 0, .int .i64 0, .int .i64 0, .int .u32 0, .int .i64 0, .bool false, .slice none 0 0, .int .i64 0, .int .i64 0, .int .i64 0, .int .u32 0, .int .u32 0, .int .u32 0, .int .i64 0, .int .i64 0, .bool false, .bool false, .slice none 0 0, .int .i64 0, .int .u32 0, .int .u32 0, .int .u32 0, .int .i64 0, .int .i64 0, .bool false, .bool false, .slice none 0 0] 35)) = .ok () ((w3.alloc (.cells #[.int .i64 0, .int .i64 0, .int .i64 0, .int .i64 0, .int .i64 0, .int .u32 0, .int .i64 0, .bool false, .slice none 0 0, .int .i64 0, .int .i64 0, .int .i64 0, .int .u32 0, .int .u32 0, .int .u32 0, .int .i64 0, .int .i64 0, .bool false, .bool false, .slice none 0 0, .int .i64 0, .int .u32 0, .int .u32 0, .int .u32 0, .int .i64 0, .int .i64 0, .bool false, .bool false, .slice none 0 0] 35)).setCells w3.heap.size 0 A.toList) := storeY_run hth1 hoA
  have hbl1 : Below w3.heap.size w3 ((w3.alloc (.cells #[.int .i64 0, .int .i64 0, .int .i64 0, .int .i64 0, .int .i64 0, .int .u32 0, .int .i64 0, .bool false, .slice none 0 0, .int .i64 0, .int .i64 0, .int .i64 0, .int .u32 0, .int .u32 0, .int .u32 0, .int .i64 0, .int .i64 0, .bool false, .bool false, .slice none 0 0, .int .i64 0, .int .u32 0, .int .u32 0, .int .u32 0, .int .i64 0, .int .i64 0, .bool false, .bool false, .slice none 0 0] 35)).setCells w3.heap.size 0 A.toList) := hof1.below (belY (Below.refl _ _) _) (by simp) (by rw [sz1]; omega)
  obtain ⟨wz, hw1⟩ : ∃ z, (w3.alloc (.cells #[.int .i64 0, .int .i64 0, .int .i64 0, .int .i64 0, .int .i64 0, .int .u32 0, .int .i64 0, .bool false, .slice none 0 0, .int .i64 0, .int .i64 0, .int .i64 0, .int .u32 0, .int .u32 0, .int .u32 0, .int .i64 0, .int .i64 0, .bool false, .bool false, .slice none 0 0, .int .i64 0, .int .u32 0, .int .u32 0, .int .u32 0, .int .i64 0, .int .i64 0, .bool false, .bool false, .slice none 0 0] 35)).setCells w3.heap.size 0 A.toList = z := ⟨_, rfl⟩
  rw [hw1] at hst1 hrg1 hbl1
  have hbz : Below wa.heap.size wa wz := by
    have h1 := HB1.out.1
    have h2 := H2.out.2.1
    have h3 := H3.out.2
    exact ((h1.trans (h2.mono h1.size)).trans (h3.mono (Nat.le_trans h1.size h2.size))).trans (hbl1.mono (Nat.le_trans (Nat.le_trans h1.size h2.size) h3.size))
  have kz := (hbz.block x HB1.out.2).trans HK.out
  have n1 : wz.cell? ⟨x, 1, none⟩ = some (.int .i64 m.c) := cell_of_row wz x 1 _ _ _ kz
  have n2 : wz.cell? ⟨x, 2, none⟩ = some (.int .i64 m.s) := cell_of_row wz x 2 _ _ _ kz
  have hSe := pseeN m.c m.s wz
  have HZ : Hid (_) := And.intro hbz (And.intro hrg1 kz)
  clear kr1 hth1 hrg1 hof1 hbl1 hw1 hbz kz
  go_wp2_with fail
  refine hSe.mono ?_
  rintro r w4 ⟨rfl, b4⟩
  clear hSe n1 n2 hst1
  obtain ⟨hbz, hrg1, kz⟩ := HZ.out
  have b5 := belY b4 (.cells #[.int .i64 0, .int .u32 0, .int .u32 0, .int .u32 0, .int .i64 0, .int .i64 0, .bool false, .bool false, .slice none 0 0] 33)
  have k5 := heap_alloc_new w4 (.cells #[.int .i64 0, .int .u32 0, .int .u32 0, .int .u32 0, .int .i64 0, .int .i64 0, .bool false, .bool false, .slice none 0 0] 33)
  obtain ⟨w5, hw5⟩ : ∃ z, w4.alloc (.cells #[.int .i64 0, .int .u32 0, .int .u32 0, .int .u32 0, .int .i64 0, .int .i64 0, .bool false, .bool false, .slice none 0 0] 33) = z := ⟨_, rfl⟩
  obtain ⟨y, hy⟩ : ∃ z, w4.heap.size = z := ⟨_, rfl⟩
  rw [hw5] at b5 k5
  rw [hy] at k5
  have kx5 := (b5.block x (Array.getElem?_eq_some_iff.1 kz).1).trans kz
  have n1 : w5.cell? ⟨x, 1, none⟩ = some (.int .i64 m.c) := cell_of_row w5 x 1 _ _ _ kx5
  have n3 : w5.cell? ⟨x, 3, none⟩ = some (.int .i64 m.f) := cell_of_row w5 x 3 _ _ _ kx5
  have hrg5 : w5.rangeAt w3.heap.size 0 A.toList := fun j v hv => cellY (hrg1 j v hv) b5
  have hFr := pframeN m.f w5
  have hMe := pmemN m.c w5
  have hi : (Tryz.prog.info? 35).map (·.size) = some A.size := by rw [hsA]; kernel_rfl
  have hSR : Calls Tryz.prog 10 #[.agg A, .agg #[.int .i64 0, .int .i64 0, .int .i64 0, .int .i64 0, .int .i64 0, .int .u32 0, .int .i64 0, .bool false, .slice none 0 0, .int .i64 0, .int .i64 0, .int .i64 0, .int .u32 0, .int .u32 0, .int .u32 0, .int .i64 0, .int .i64 0, .bool false, .bool false, .slice none 0 0, .int .i64 0, .int .u32 0, .int .u32 0, .int .u32 0, .int .i64 0, .int .i64 0, .bool false, .bool false, .slice none 0 0]] w5 fun r w' => r = .returned (.bool true) ∧ Below w5.heap.size w5 w' := by
    rw [H3.out.1]
    exact rsameRZ w5
  have HQ : Hid (_) := And.intro hbz (And.intro b5 k5)
  have HE5 : Hid (_ = w5) := hw5
  have HY : Hid (w4.heap.size = y) := hy
  clear hbz hrg1 kz b5 k5 kx5 hw5 hy b4
  go_upto_region 6 with fail
  rw [HE5.out, HY.out]
  go_wp2_with fail
  refine hFr.mono ?_
  rintro r w6 ⟨rfl, rfl⟩
  clear hFr
  go_wp2_with fail
  refine hMe.mono ?_
  rintro r w6 ⟨rfl, rfl⟩
  clear hMe
  go_wp2_with (refine wpList_loadAG (by kernel_rfl) 35 (.tmp 4) rfl w3.heap.size 0 rfl A _ hrg5 Tryz.underlying35 rfl hi ?_)
  refine hSR.mono ?_
  rintro r w7 ⟨rfl, b7⟩
  clear hSR hrg5 n1 n3
  obtain ⟨hbz, b5, k5⟩ := HQ.out
  have k7 := (b7.block y (Array.getElem?_eq_some_iff.1 k5).1).trans k5
  have p0 : w7.cell? ⟨y, 0, none⟩ = some (.int .i64 0) := cell_of_row w7 y 0 _ _ _ k7
  have p1 : w7.cell? ⟨y, 1, none⟩ = some (.int .u32 0) := cell_of_row w7 y 1 _ _ _ k7
  have p2 : w7.cell? ⟨y, 2, none⟩ = some (.int .u32 0) := cell_of_row w7 y 2 _ _ _ k7
  have p3 : w7.cell? ⟨y, 3, none⟩ = some (.int .u32 0) := cell_of_row w7 y 3 _ _ _ k7
  have p4 : w7.cell? ⟨y, 4, none⟩ = some (.int .i64 0) := cell_of_row w7 y 4 _ _ _ k7
  have p5 : w7.cell? ⟨y, 5, none⟩ = some (.int .i64 0) := cell_of_row w7 y 5 _ _ _ k7
  have p6 : w7.cell? ⟨y, 6, none⟩ = some (.bool false) := cell_of_row w7 y 6 _ _ _ k7
  have p7 : w7.cell? ⟨y, 7, none⟩ = some (.bool false) := cell_of_row w7 y 7 _ _ _ k7
  have p8 : w7.cell? ⟨y, 8, none⟩ = some (.slice none 0 0) := cell_of_row w7 y 8 _ _ _ k7
  have hSE := rsameEZ w7
  have HB7 : Hid (_) := b7
  clear hbz b5 k5 k7 b7
  go_wp2_with fail
  refine hSE.mono ?_
  rintro r w8 ⟨rfl, b8⟩
  clear hSE p0 p1 p2 p3 p4 p5 p6 p7 p8
  have hM := pmovesN w8
  have hF := pframesN w8
  have hFa := pfactsN w8
  have hNe := pnetN w8
  have HB8 : Hid (_) := b8
  clear b8
  go_wp2_with fail
  refine hM.mono ?_
  rintro r w9 ⟨rfl, rfl⟩
  clear hM
  go_wp2_with fail
  refine hF.mono ?_
  rintro r w9 ⟨rfl, rfl⟩
  clear hF
  go_wp2_with fail
  refine hFa.mono ?_
  rintro r w9 ⟨rfl, rfl⟩
  clear hFa
  go_wp2_with fail
  refine hNe.mono ?_
  rintro r w9 ⟨rfl, b9⟩
  clear hNe
  have hSN := rsameNZ w9
  have HB9 : Hid (_) := b9
  clear b9
  go_wp2_with fail
  refine hSN.mono ?_
  rintro r w10 ⟨rfl, b10⟩
  clear hSN
  go_wp2_with fail
  go_ret
  refine ⟨rfl, ?_⟩
  have h0 := HB.out
  obtain ⟨h1, h2, _⟩ := HQ.out
  have h3 := HB7.out
  have h4 := HB8.out
  have h5 := HB9.out
  have e1 := h0.trans (h1.mono h0.size)
  have e2 := e1.trans (h2.mono e1.size)
  have e3 := e2.trans (h3.mono e2.size)
  have e4 := e3.trans (h4.mono e3.size)
  have e5 := e4.trans (h5.mono e4.size)
  exact e5.trans (b10.mono e5.size)
theorem worldNil_walk (a0_0 : Int) (a0_1 : Int) (a0_2 : Int) (a0_3 : Int) (a0_4 : Int) (a0_5 : Int) (a0_6 : Int) (a0_7 : Bool) (a0_8 : Option Addr) (len0_8 cap0_8 : Nat) (z0_8 : List Int) (w : World) (w0_0 : (Lit.int .i64 a0_0).wf = true) (w0_1 : (Lit.int .i64 a0_1).wf = true) (w0_2 : (Lit.int .i64 a0_2).wf = true) (w0_3 : (Lit.int .i64 a0_3).wf = true) (w0_4 : (Lit.int .i64 a0_4).wf = true) (w0_5 : (Lit.int .u32 a0_5).wf = true) (w0_6 : (Lit.int .i64 a0_6).wf = true) (w0_8 : BRow .u8 w a0_8 len0_8 cap0_8 z0_8) (s0_8 : len0_8 ≤ 140737488351232) :
    Calls Tryz.prog 3 #[.agg #[.int .i64 a0_0, .int .i64 a0_1, .int .i64 a0_2, .int .i64 a0_3, .int .i64 a0_4, .int .u32 a0_5, .int .i64 a0_6, .bool a0_7, .slice a0_8 len0_8 cap0_8]] w fun e w' => e = .returned (.bool true) ∧ Below w.heap.size w w' := by
  obtain ⟨x, rfl, _⟩ := u32_sn w0_5
  exact worldNil_any ⟨a0_0, a0_1, a0_2, a0_3, a0_4, x, a0_6, a0_7, len0_8, fun i => (z0_8.getD i 0).toNat⟩ a0_8 cap0_8 w w0_8.row8 s0_8
end Go.Proofs.YtpbcgpdfjplidaaGreat
