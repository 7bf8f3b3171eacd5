/- Layer 20: scripts in lists; a script with its own data. -/
import Derived.Test.YtiikebaehoobnaaDoorSco
import Derived.Test.YtiikebaehoobnaaDoorSp2
namespace Go.Proofs.YtiikebaehoobnaaDoor
set_option maxRecDepth 100000
open Go.RowKit Go.Maps
set_option maxRecDepth 100000
set_option maxHeartbeats 2000000 in
theorem pcopymL (m : Mv) (d : Option Addr) (e : Nat) (w : World) (hr : Row8 w d m.l e m.b) (hlen : m.l ≤ 140737488355328) : Calls Tryd.prog 50 #[.agg #[.int .i64 m.k, .int .i64 m.c, .int .i64 m.s, .int .i64 m.f, .int .i64 m.a, .int .u32 (m.w : Nat), .int .i64 m.n, .bool m.h, .slice d m.l e]] w fun r w' => ∃ a' c', r = .returned (.agg #[.int .i64 m.k, .int .i64 m.c, .int .i64 m.s, .int .i64 m.f, .int .i64 m.a, .int .u32 (m.w : Nat), .int .i64 m.n, .bool m.h, .slice a' m.l c']) ∧ Hid (Row8 w' a' m.l c' m.b ∧ Below w.heap.size w w' ∧ ∀ y, a' = some y → 0 < m.l → w.heap.size ≤ y.block) := by
  obtain ⟨i0, hi, hz0, hz1, hz2⟩ := info_parts info_u8
  have hbd := build0S
  have hX := fun wx hb => mv_cells w #[.int .i64 m.k, .int .i64 m.c, .int .i64 m.s, .int .i64 m.f, .int .i64 m.a, .int .u32 (m.w : Nat), .int .i64 m.n, .bool m.h, .slice d m.l e] wx hb
  have hXf := fun i wx hb => mv_frozen w #[.int .i64 m.k, .int .i64 m.c, .int .i64 m.s, .int .i64 m.f, .int .i64 m.a, .int .u32 (m.w : Nat), .int .i64 m.n, .bool m.h, .slice d m.l e] i wx hb
  obtain ⟨wa, hwa⟩ : ∃ x, x = w.alloc (.cells #[.int .i64 m.k, .int .i64 m.c, .int .i64 m.s, .int .i64 m.f, .int .i64 m.a, .int .u32 (m.w : Nat), .int .i64 m.n, .bool m.h, .slice d m.l e] 34) := ⟨_, rfl⟩
  rw [← hwa] at hX hXf
  have hA : Below w.heap.size w wa := by rw [hwa]; exact (Below.refl _ _).alloc (Nat.le_refl _) _
  have hAs : wa.heap.size = w.heap.size + 1 := by rw [hwa]; simp
  have hY := fun wx hb => mv_cells wa #[.int .i64 0, .int .i64 0, .int .i64 0, .int .i64 0, .int .i64 0, .int .u32 0, .int .i64 0, .bool false, .slice none 0 0] wx hb
  have hYf := fun i wx hb => mv_frozen wa #[.int .i64 0, .int .i64 0, .int .i64 0, .int .i64 0, .int .i64 0, .int .u32 0, .int .i64 0, .bool false, .slice none 0 0] i wx hb
  obtain ⟨wb, hwb⟩ : ∃ x, x = wa.alloc (.cells #[.int .i64 0, .int .i64 0, .int .i64 0, .int .i64 0, .int .i64 0, .int .u32 0, .int .i64 0, .bool false, .slice none 0 0] 34) := ⟨_, rfl⟩
  rw [← hwb] at hY hYf
  have hB : Below wa.heap.size wa wb := by rw [hwb]; exact (Below.refl _ _).alloc (Nat.le_refl _) _
  have hBs : wb.heap.size = w.heap.size + 1 + 1 := by rw [hwb, hwa]; simp
  have hC : Below wb.heap.size wb (wb.alloc (.cells #[] 5)) := (Below.refl _ _).alloc (Nat.le_refl _) _
  have O0 : (wb.alloc (.cells #[] 5)).ownsRow wb.heap.size 5 1 (.slice (some ⟨wb.heap.size, 0, none⟩) 0 0) 0 (CB m.b 0) := World.ownsRow_made wb #[] 0 (Nat.le_refl _) (Nat.zero_le _) rfl
  have hszC := hC.size
  have R0 := ((hr.below hA).below hB).below hC
  rw [hAs] at hY hYf
  go_enter Tryd.func50, Tryd.ntmps50
  go_upto_region 1 with fail
  try rw [← hwa]
  try rw [← hwb]
  have H0 : Hid (_) := And.intro hwa (And.intro hwb (And.intro hAs hBs))
  clear hwa hwb
  have x8 : (wb.alloc (.cells #[] 5)).cell? ⟨w.heap.size, 8, none⟩ = some (.slice d m.l e) := hX (wb.alloc (.cells #[] 5)) (hB.trans (hC.mono (by omega))) 8
  clear hAs hBs
  go_wp2_with (at_builtin; refine wpList_append_row8 rfl (.tmp 3) (.tmp 5) 32 rfl wb.heap.size 5 i0 (.int .u8 0) Tryd.underlying32 hi hz0 hz1 hz2 rfl _ 0 _ rfl O0 d m.l e m.b rfl R0 (by unfold maxLen; omega) (by omega) hszC ?_)
  intro v2 w2 hown2 hgrow2
  have hbel2 : Below wb.heap.size wb w2 := hC.grown hgrow2 hszC (fun j hj => (O0.lt j hj).1)
  rw [show CB m.b 0 = [] from rfl, List.nil_append] at hown2
  have hlt : w.heap.size < wb.heap.size ∧ w.heap.size + 1 < wb.heap.size := by have := H0.out; omega
  have hbelA : Below wa.heap.size wa w2 := hB.trans (hbel2.mono (by have := H0.out; omega))
  have x0 : w2.cell? ⟨w.heap.size, 0, none⟩ = some ((.int .i64 m.k)) := hX w2 hbelA 0
  have x1 : w2.cell? ⟨w.heap.size, 1, none⟩ = some ((.int .i64 m.c)) := hX w2 hbelA 1
  have x2 : w2.cell? ⟨w.heap.size, 2, none⟩ = some ((.int .i64 m.s)) := hX w2 hbelA 2
  have x3 : w2.cell? ⟨w.heap.size, 3, none⟩ = some ((.int .i64 m.f)) := hX w2 hbelA 3
  have x4 : w2.cell? ⟨w.heap.size, 4, none⟩ = some ((.int .i64 m.a)) := hX w2 hbelA 4
  have x5 : w2.cell? ⟨w.heap.size, 5, none⟩ = some ((.int .u32 (m.w : Nat))) := hX w2 hbelA 5
  have x6 : w2.cell? ⟨w.heap.size, 6, none⟩ = some ((.int .i64 m.n)) := hX w2 hbelA 6
  have x7 : w2.cell? ⟨w.heap.size, 7, none⟩ = some ((.bool m.h)) := hX w2 hbelA 7
  have x8 : w2.cell? ⟨w.heap.size, 8, none⟩ = some ((.slice d m.l e)) := hX w2 hbelA 8
  have y0 : w2.cell? ⟨w.heap.size + 1, 0, none⟩ = some (.int .i64 0) := hY w2 hbel2 0
  have y1 : w2.cell? ⟨w.heap.size + 1, 1, none⟩ = some (.int .i64 0) := hY w2 hbel2 1
  have y2 : w2.cell? ⟨w.heap.size + 1, 2, none⟩ = some (.int .i64 0) := hY w2 hbel2 2
  have y3 : w2.cell? ⟨w.heap.size + 1, 3, none⟩ = some (.int .i64 0) := hY w2 hbel2 3
  have y4 : w2.cell? ⟨w.heap.size + 1, 4, none⟩ = some (.int .i64 0) := hY w2 hbel2 4
  have y5 : w2.cell? ⟨w.heap.size + 1, 5, none⟩ = some (.int .u32 0) := hY w2 hbel2 5
  have y6 : w2.cell? ⟨w.heap.size + 1, 6, none⟩ = some (.int .i64 0) := hY w2 hbel2 6
  have y7 : w2.cell? ⟨w.heap.size + 1, 7, none⟩ = some (.bool false) := hY w2 hbel2 7
  have y8 : w2.cell? ⟨w.heap.size + 1, 8, none⟩ = some (.slice none 0 0) := hY w2 hbel2 8
  have xf := fun i => hXf i w2 hbelA
  have yf := fun i => hYf i w2 hbel2
  obtain ⟨a2, c2, rfl, R2⟩ := own_row8 hown2 hr.byte
  have HR : Hid (w2.ownsRow wb.heap.size 5 1 (.slice a2 m.l c2) m.l (CB m.b m.l) ∧ Below wb.heap.size wb w2) := ⟨hown2, hbel2⟩
  clear hgrow2 O0 R0 hC hszC hX hY hXf hYf hown2 R2 hbel2 hbelA hbd
  go_wp2_with fail
  refine bodyPost_ret (v := .agg #[.int .i64 m.k, .int .i64 m.c, .int .i64 m.s, .int .i64 m.f, .int .i64 m.a, .int .u32 (m.w : Nat), .int .i64 m.n, .bool m.h, .slice a2 m.l c2]) (by simp [results, Tryd.results50, go_sem, y0, y1, y2, y3, y4, y5, y6, y7, y8]) rfl ⟨a2, c2, rfl, ?_, ?_, ?_⟩
  · obtain ⟨a3, c3, e, R3⟩ := own_row8 (ownsRow_setCell_below (ownsRow_setCell_below (ownsRow_setCell_below (ownsRow_setCell_below (ownsRow_setCell_below (ownsRow_setCell_below (ownsRow_setCell_below (ownsRow_setCell_below (ownsRow_setCell_below (ownsRow_setCell_below HR.out.1 (a := ⟨w.heap.size, 8, none⟩) hlt.1 _) (a := ⟨w.heap.size + 1, 0, none⟩) hlt.2 _) (a := ⟨w.heap.size + 1, 1, none⟩) hlt.2 _) (a := ⟨w.heap.size + 1, 2, none⟩) hlt.2 _) (a := ⟨w.heap.size + 1, 3, none⟩) hlt.2 _) (a := ⟨w.heap.size + 1, 4, none⟩) hlt.2 _) (a := ⟨w.heap.size + 1, 5, none⟩) hlt.2 _) (a := ⟨w.heap.size + 1, 6, none⟩) hlt.2 _) (a := ⟨w.heap.size + 1, 7, none⟩) hlt.2 _) (a := ⟨w.heap.size + 1, 8, none⟩) hlt.2 _) hr.byte
    simp only [Value.slice.injEq, true_and] at e
    obtain ⟨rfl, rfl⟩ := e
    exact R3
  · have hb : Below w.heap.size w w2 := (hA.trans (hB.mono (by have := H0.out; omega))).trans (HR.out.2.mono (by omega))
    exact ((((((((((hb.setCell (p := ⟨w.heap.size, 8, none⟩) (Nat.le_refl _) _).setCell (p := ⟨w.heap.size + 1, 0, none⟩) (Nat.le_succ _) _).setCell (p := ⟨w.heap.size + 1, 1, none⟩) (Nat.le_succ _) _).setCell (p := ⟨w.heap.size + 1, 2, none⟩) (Nat.le_succ _) _).setCell (p := ⟨w.heap.size + 1, 3, none⟩) (Nat.le_succ _) _).setCell (p := ⟨w.heap.size + 1, 4, none⟩) (Nat.le_succ _) _).setCell (p := ⟨w.heap.size + 1, 5, none⟩) (Nat.le_succ _) _).setCell (p := ⟨w.heap.size + 1, 6, none⟩) (Nat.le_succ _) _).setCell (p := ⟨w.heap.size + 1, 7, none⟩) (Nat.le_succ _) _).setCell (p := ⟨w.heap.size + 1, 8, none⟩) (Nat.le_succ _) _)
  · intro y hy hn
    rcases HR.out.1.2 with ⟨e, _⟩ | ⟨g, cap, cur, e, hg, _⟩
    · simp only [Value.slice.injEq] at e
      rw [e.1] at hy
      cases hy
    · simp only [Value.slice.injEq] at e
      rw [e.1] at hy
      cases hy
      have := hlt.1
      show w.heap.size ≤ g
      omega
/-- Where a move's data lie. -/
structure Md where
  a : Option Addr
  c : Nat
def Mv.ls (m : Mv) (d : Md) : List Value := (m.cs d.a d.c).toList
/-- Moves in a list. -/
def MvRow (w : World) (a : Option Addr) (len : Nat) (M : Nat → Mv) (D : Nat → Md) : Prop := ∀ i, i < len → ∃ b off, a = some ⟨b, off, none⟩ ∧ w.rangeAt b (off + i * 9) ((M i).ls (D i)) ∧ Row8 w (D i).a (M i).l (D i).c (M i).b
theorem MvRow.below {w w' : World} {a : Option Addr} {len : Nat} {M : Nat → Mv} {D : Nat → Md} (h : MvRow w a len M D) (b : Below w.heap.size w w') : MvRow w' a len M D := fun i hi => by
  obtain ⟨q, off, e, c, r⟩ := h i hi
  exact ⟨q, off, e, rangeB c b, r.below b⟩
def mb (m : Mv) (d : Md) : List Bt8 := [⟨d.a, m.l, d.c, m.b⟩]
theorem OL.congrM {W wx : World} {T K : Nat} {v : Value} {n : Nat} {cs cs' : Nat → List Value} {bt bt' : Nat → List Bt8} (h : OL W wx T K v n cs bt) (h1 : ∀ i, i < n → cs i = cs' i) (h2 : ∀ i, i < n → bt i = bt' i) : OL W wx T K v n cs' bt' :=
  ⟨by rw [← fl_congr h1]; exact h.own, h.bel, fun i hi => by rw [← h1 i hi]; exact h.len i hi, fun i hi r hr => by rw [← h2 i hi] at hr; exact h.row i hi r hr⟩
/-- The list of copies so far. -/
def Mc (W wx : World) (T : Nat) (v : Value) (n : Nat) (M : Nat → Mv) (D : Nat → Md) : Prop := OL W wx T 9 v n (fun j => (M j).ls (D j)) (fun j => mb (M j) (D j))
theorem Mc.rows {W wx : World} {T : Nat} {v : Value} {n : Nat} {M : Nat → Mv} {D : Nat → Md} (h : Mc W wx T v n M D) : ∃ a c, v = .slice a n c ∧ MvRow wx a n M D := by
  by_cases h0 : 0 < n
  · obtain ⟨g, c, e, _, _, hc⟩ := OL.form h h0
    refine ⟨_, c, e, fun i hi => ⟨g, 0, rfl, fun j u hu => ?_, (OL.row h i hi ⟨(D i).a, (M i).l, (D i).c, (M i).b⟩ (by simp [mb])).1⟩⟩
    rw [Nat.zero_add]
    exact hc i j u hi hu
  · obtain ⟨a, c, e, _⟩ := OL.shape h
    exact ⟨a, c, e, fun i hi => by omega⟩
theorem build1M (m : Mv) (d : Md) (w : World) : (Instr.buildSlice 49 1 #[(0, .agg (m.cs d.a d.c))]).run Tryd.prog w = .ok (.slice (some ⟨w.heap.size, 0, none⟩) 1 1) (w.alloc (.cells (m.cs d.a d.c) 34)) := by
  show (Instr.buildSlice 49 1 #[(0, .agg #[.int .i64 m.k, .int .i64 m.c, .int .i64 m.s, .int .i64 m.f, .int .i64 m.a, .int .u32 (m.w : Nat), .int .i64 m.n, .bool m.h, .slice d.a m.l d.c])]).run Tryd.prog w = .ok (.slice (some ⟨w.heap.size, 0, none⟩) 1 1) (w.alloc (.cells #[.int .i64 m.k, .int .i64 m.c, .int .i64 m.s, .int .i64 m.f, .int .i64 m.a, .int .u32 (m.w : Nat), .int .i64 m.n, .bool m.h, .slice d.a m.l d.c] 34))
  kernel_rfl
theorem info_mv : (Tryd.prog.info? 34).map (fun i => (i.zero, i.size, i.bytes)) = some (some (.agg #[.int .i64 0, .int .i64 0, .int .i64 0, .int .i64 0, .int .i64 0, .int .u32 0, .int .i64 0, .bool false, .slice none 0 0]), 9, 88) := by kernel_rfl
theorem size_mv : (Tryd.prog.info? 34).map (·.size) = some 9 := by kernel_rfl
theorem Mv.cs_one (m : Mv) (d : Option Addr) (e : Nat) : ∀ u ∈ (m.cs d e).toList, u.oneCell' = true := fun v hv => by
  unfold Mv.cs at hv
  simp only [List.mem_cons, List.not_mem_nil, or_false] at hv
  rcases hv with rfl | rfl | rfl | rfl | rfl | rfl | rfl | rfl | rfl <;> rfl
def CopP (len : Nat) (M : Nat → Mv) (w : World) (q : Ending) (w' : World) : Prop := ∃ a' c' D', q = .returned (.slice a' len c') ∧ Hid (MvRow w' a' len M D' ∧ Below w.heap.size w w')
set_option maxHeartbeats 4000000 in
theorem pcopies (a : Option Addr) (len cap : Nat) (M : Nat → Mv) (D : Nat → Md) (w : World) (hr : MvRow w a len M D) (hl : ∀ i, i < len → (M i).l ≤ 140737488355328) (hlen : len ≤ 1000) : Calls Tryd.prog 25 #[.slice a len cap] w (CopP len M w) := by
  have HW : Hid (MvRow w a len M D ∧ ∀ i, i < len → (M i).l ≤ 140737488355328) := ⟨hr, hl⟩
  clear hr hl
  have H0 : Hid (∃ D', Mc w w 34 (.slice none 0 0) 0 M D') := ⟨D, OL.none w 34 9 _ _⟩
  go_enter Tryd.func25, Tryd.ntmps25
  go_wp2_with fail
  go_loopw [3, 4, 5, 6, 7, 8, 9, 10, 11, 12, 13, 14, 15, 16, 17, 18] (fun v c _ _ _ _ _ _ _ _ _ _ _ _ _ _ wr => ∃ i : Nat, i ≤ len ∧ c = .int .i64 ((i : Nat) : Int) ∧ Hid (∃ D', Mc w wr 34 v i M D')) (fun _ c _ _ _ _ _ _ _ _ _ _ _ _ _ _ _ => len - natV c)
  case atStart => exact ⟨0, by omega, rfl, H0⟩
  case round =>
    clear H0
    obtain ⟨i, hi, rfl, HI⟩ := hrel
    obtain ⟨D', hL'⟩ := HI.out
    have HL : Hid (Mc w wr 34 u3 i M D') := hL'
    clear HI hL'
    by_cases hlt : i < len
    rotate_left
    · obtain rfl : i = len := by omega
      have hlt' : ¬ ((i : Nat) : Int) < ((i : Nat) : Int) := by omega
      obtain ⟨al, cl, e, hrow⟩ := Mc.rows HL.out
      subst e
      have HF : Hid (_) := And.intro hrow (OL.bel HL.out)
      clear hrow
      go_wp2_with fail
      go_ret
      exact ⟨_, _, _, rfl, HF⟩
    have hlt' : ((i : Nat) : Int) < ((len : Nat) : Int) := by omega
    have hw1 : IntKind.i64.wrap (((i : Nat) : Int) + 1) = ((i + 1 : Nat) : Int) := by rw [IntKind.wrap_i64]; omega
    obtain ⟨q, off, ea, cc, RR⟩ := (MvRow.below HW.out.1 (OL.bel HL.out)) i hlt
    subst ea
    have hok := HW.out.2 i hlt
    obtain ⟨m, hM⟩ : ∃ y, M i = y := ⟨_, rfl⟩
    obtain ⟨d, hD⟩ : ∃ y, D i = y := ⟨_, rfl⟩
    rw [hM] at hok
    rw [hM, hD] at cc RR
    have hOw := pcopymL m d.a d.c wr RR hok
    have hOw' : Calls Tryd.prog 50 #[.agg (m.cs d.a d.c)] wr fun r w' => ∃ a' c', r = .returned (.agg (m.cs a' c')) ∧ Hid (Row8 w' a' m.l c' m.b ∧ Below wr.heap.size wr w' ∧ ∀ y, a' = some y → 0 < m.l → wr.heap.size ≤ y.block) := hOw
    obtain ⟨A, hA⟩ : ∃ y, m.cs d.a d.c = y := ⟨_, rfl⟩
    rw [hA] at hOw'
    have cA : wr.rangeAt q (off + i * 9) A.toList := by rw [← hA]; exact cc
    have iA : (Tryd.prog.info? 34).map (·.size) = some A.size := by rw [← hA]; exact size_mv
    have HM : Hid (_) := hM
    clear hOw RR hok hM hD hA cc
    go_wp2_with (refine wpList_loadA rfl 34 (.tmp 14) rfl q (off + i * 9) rfl A _ cA Tryd.underlying34 rfl iA ?_)
    refine hOw'.mono ?_
    rintro z w3 ⟨a', c', rfl, h3⟩
    clear hOw' cA iA
    obtain ⟨y, hy⟩ : ∃ y : Md, ⟨a', c'⟩ = y := ⟨_, rfl⟩
    have ea : a' = y.a := by rw [← hy]
    have ec : c' = y.c := by rw [← hy]
    rw [ea, ec] at h3 ⊢
    clear hy ea ec
    obtain ⟨A', hA'⟩ : ∃ z, m.cs y.a y.c = z := ⟨_, rfl⟩
    have hbd := build1M m y
    rw [hA'] at hbd
    try rw [hA']
    have sA' : A'.size = 9 := by rw [← hA']; rfl
    have L3 : OL w w3 34 9 u3 i (fun j => (M j).ls (D' j)) (fun j => mb (M j) (D' j)) := OL.below HL.out h3.out.2.1
    have bA := belA (Below.refl _ w3) (.cells A' 34)
    have L4 : OL w (w3.alloc (.cells A' 34)) 34 9 u3 i (fun j => (M j).ls (D' j)) (fun j => mb (M j) (D' j)) := OL.below L3 bA
    obtain ⟨i0, hi0, hz0, hz1, hz2⟩ := info_parts info_mv
    have src : ∀ j u, A'.toList[j]? = some u → (w3.alloc (.cells A' 34)).cell? ((⟨w3.heap.size, 0, none⟩ : Addr).add j) = some u := fun j u hu => by
      rw [Addr.add_mid]
      exact range_new w3 A' 34 j u hu
    have one : ∀ u ∈ A'.toList, u.oneCell' = true := by rw [← hA']; exact m.cs_one y.a y.c
    have lA' : A'.toList.length = 1 * 9 := by simp [sA']
    have hBw : w.heap.size ≤ (w3.alloc (.cells A' 34)).heap.size := (OL.bel L4).size
    have H3 : Hid (_) := And.intro h3.out (And.intro hA' (fun k (hk : u3.ownBlock = some k) => ((OL.own HL.out).lt k hk).2))
    clear h3 L3 bA
    go_wp2_with (first
      | refine wpList_buildA rfl 49 (.tmp 16) rfl (.agg A') _ rfl (hbd w3) ?_
      | (at_builtin; refine wpList_append_own_at _ rfl _ _ 49 rfl w.heap.size 34 i0 (.agg #[.int .i64 0, .int .i64 0, .int .i64 0, .int .i64 0, .int .i64 0, .int .u32 0, .int .i64 0, .bool false, .slice none 0 0]) 9 88 Tryd.underlying49 hi0 hz0 hz1 hz2 rfl (by decide) u3 i _ rfl (OL.own L4) ⟨w3.heap.size, 0, none⟩ 1 1 A'.toList rfl lA' src one (by unfold maxLen; omega) (by omega) hBw ?_)
      | fail)
    intro v5 w5 O5 G5 _ E5
    have L5 : Mc w w5 34 v5 (i + 1) M (fun j => if j = i then y else D' j) := by
      refine OL.congrM (OL.more L4 (m.ls y) (mb m y) rfl (fun t ht => ⟨?_, fun z hz hn => ?_⟩) (by rw [show m.ls y = A'.toList from by rw [← H3.out.2.1]; rfl]; exact O5) G5 (by simpa using E5)) (fun j hj => ?_) (fun j hj => ?_)
      · simp only [mb, List.mem_singleton] at ht
        subst ht
        exact H3.out.1.1.below (belA (Below.refl _ w3) _)
      · intro q5
        have h1 := H3.out.2.2 z.block q5.symm
        simp only [mb, List.mem_singleton] at ht
        subst ht
        have h2 := H3.out.1.2.2 z hz hn
        omega
      · by_cases e : j = i
        · subst e; simp [HM.out]
        · simp [e]
      · by_cases e : j = i
        · subst e; simp [HM.out]
        · simp [e]
    have HF : Hid (∃ D', Mc w w5 34 v5 (i + 1) M D') := ⟨_, L5⟩
    clear L4 O5 G5 E5 L5 src one lA' hBw hbd hi0 hz0 hz1 hz2 sA' H3 HL HM
    go_wp2_with fail
    go_roundw
    case rel => exact ⟨i + 1, by omega, by first | rfl | go_num, HF⟩
    case measure => simp [natV] <;> omega
end Go.Proofs.YtiikebaehoobnaaDoor
