/- Layer 20: the document's fault. (gensj.py) -/
import Derived.Test.YtnmnjcjfgbpkaaaDoorJSi
import Derived.Test.YtnmnjcjfgbpkaaaDoorJSg
namespace Go.Proofs.YtnmnjcjfgbpkaaaDoor
set_option maxRecDepth 100000
open Go.RowKit Go.Maps
set_option maxRecDepth 100000
set_option linter.unusedSimpArgs false
set_option linter.unusedVariables false
theorem fit_w {m : Mv} (h : m.Ok) : fitI ((m.w : Nat) : Int) = true := by
  have := h.w
  unfold fitI
  simp
  omega
end Go.Proofs.YtnmnjcjfgbpkaaaDoor
namespace Go.Proofs.YtnmnjcjfgbpkaaaDoor
set_option maxRecDepth 100000
open Go.RowKit Go.Maps
set_option maxRecDepth 100000
theorem build0S (w : World) : (Instr.buildSlice 43 0 #[]).run Tryd.prog w = .ok (.slice (some ⟨w.heap.size, 0, none⟩) 0 0) (w.alloc (.cells #[] 5)) := by kernel_rfl
theorem own0S (w : World) : (w.alloc (.cells #[] 5)).ownsRow w.heap.size 5 1 (.slice (some ⟨w.heap.size, 0, none⟩) 0 0) 0 (vb []) := World.ownsRow_made w #[] 0 (Nat.le_refl _) (Nat.zero_le _) rfl
end Go.Proofs.YtnmnjcjfgbpkaaaDoor
namespace Go.Proofs.YtnmnjcjfgbpkaaaDoor
set_option maxRecDepth 100000
open Go.RowKit Go.Maps
set_option maxRecDepth 100000
theorem join_snoc (x : List UInt8) : ∀ ls : List (List UInt8), ls ≠ [] → Lib.join (ls ++ [x]) [32] = Lib.join ls [32] ++ [32] ++ x
  | [], h => absurd rfl h
  | [a], _ => by simp [Lib.join, List.intercalate]
  | a :: b :: t, _ => by
    have h := join_snoc x (b :: t) (by simp)
    have e1 : Lib.join (a :: b :: t ++ [x]) [32] = a ++ [32] ++ Lib.join (b :: t ++ [x]) [32] := by simp [Lib.join, List.intercalate]
    have e2 : Lib.join (a :: b :: t) [32] = a ++ [32] ++ Lib.join (b :: t) [32] := by simp [Lib.join, List.intercalate]
    rw [e1, e2, h]
    simp
/-- One text behind another: what the walk wants. -/
theorem catS {a b : List UInt8} {A B : ByteArray} (hA : tx a = A) (hB : tx b = B) : ∃ C, A ++ B = C ∧ tx (a ++ b) = C ∧ C.size = A.size + B.size := ⟨_, rfl, by rw [← tx_app, hA, hB], sz_app _ _⟩
def Mv.j1 (m : Mv) : List UInt8 := Lib.join m.w1 [32]
def Mv.j2 (m : Mv) : List UInt8 := Lib.join (m.w1 ++ m.w2) [32]
theorem Mv.j1_eq (m : Mv) : m.j1 = kws.getD m.k.toNat [] ++ [32] ++ Lib.itoa m.c := by simp [Mv.j1, Mv.w1, Lib.join, List.intercalate]
theorem Mv.j2_eq (m : Mv) : m.j2 = m.j1 ++ (if sided m.k then (if m.s = 1 then [32, 104] else [32, 100]) else []) := by
  unfold Mv.j2 Mv.w2
  cases sided m.k with
  | false => simp [Mv.j1]
  | true =>
    simp only [if_true]
    rw [join_snoc _ _ (by simp [Mv.w1])]
    unfold Mv.j1
    split <;> simp
theorem Mv.j1_len {m : Mv} (h : m.Ok) : m.j1.length ≤ 28 := by
  rw [m.j1_eq]
  have h1 := kws_len m.k.toNat
  have h2 := itoa_len h.c.1 h.c.2
  simp only [List.length_append, List.length_cons, List.length_nil]
  omega
theorem Mv.j2_len {m : Mv} (h : m.Ok) : m.j2.length ≤ 30 := by
  have h1 := Mv.j1_len h
  rw [m.j2_eq]
  repeat' split
  all_goals simp
  all_goals omega
theorem Mv.w12 (m : Mv) : m.w1 ++ m.w2 ≠ [] := by simp [Mv.w1]
theorem Mv.line1 (m : Mv) (hk : m.k = 1) : m.line = m.j2 ++ [32, 120] ++ hx m.l m.b ++ (if m.h then [32, 104, 111, 108, 100] else []) := by
  have hn : m.ns = [] := by unfold Mv.ns; simp [hk]
  have e : m.ws = m.w1 ++ m.w2 ++ [120 :: hx m.l m.b] ++ (if m.h then [[104, 111, 108, 100]] else []) := by
    unfold Mv.ws Mv.w3 Mv.w4
    rw [hn, if_pos hk]
    simp
  unfold Mv.line
  rw [e]
  cases m.h with
  | false => simp only [Bool.false_eq_true, if_false, List.append_nil]; rw [join_snoc _ _ m.w12]; simp [Mv.j2]
  | true => simp only [if_true]; rw [join_snoc _ _ (by simp), join_snoc _ _ m.w12]; simp [Mv.j2]
theorem Mv.line_ns (m : Mv) (hk : m.k ≠ 1) : m.line = Lib.join (m.w1 ++ m.w2 ++ m.ns.map Lib.itoa) [32] := by
  unfold Mv.line Mv.ws Mv.w3 Mv.w4
  rw [if_neg hk]
  simp
theorem Mv.line3 (m : Mv) (hk : m.k = 3) : m.line = m.j2 ++ [32] ++ Lib.itoa m.f := by
  rw [m.line_ns (by omega), show m.ns = [m.f] by unfold Mv.ns; simp [hk]]
  show Lib.join (m.w1 ++ m.w2 ++ [Lib.itoa m.f]) [32] = _
  rw [join_snoc _ _ m.w12]
  rfl
theorem Mv.line4 (m : Mv) (hk : m.k = 4) : m.line = m.j2 ++ [32] ++ Lib.itoa m.f ++ [32] ++ Lib.itoa m.a ++ [32] ++ Lib.itoa ((m.w : Nat) : Int) := by
  rw [m.line_ns (by omega), show m.ns = [m.f, m.a, ((m.w : Nat) : Int)] by unfold Mv.ns; simp [hk]]
  have e : m.w1 ++ m.w2 ++ [m.f, m.a, ((m.w : Nat) : Int)].map Lib.itoa = m.w1 ++ m.w2 ++ [Lib.itoa m.f] ++ [Lib.itoa m.a] ++ [Lib.itoa ((m.w : Nat) : Int)] := by simp
  rw [e, join_snoc _ _ (by simp), join_snoc _ _ (by simp), join_snoc _ _ m.w12]
  rfl
theorem Mv.line5 (m : Mv) (hk : m.k = 5 ∨ m.k = 7 ∨ m.k = 8) : m.line = m.j2 ++ [32] ++ Lib.itoa m.n := by
  rw [m.line_ns (by omega), show m.ns = [m.n] by unfold Mv.ns; rw [if_neg (by omega), if_neg (by omega), if_pos hk]]
  show Lib.join (m.w1 ++ m.w2 ++ [Lib.itoa m.n]) [32] = _
  rw [join_snoc _ _ m.w12]
  rfl
theorem Mv.line2 (m : Mv) (hk : m.k = 2 ∨ m.k = 6) : m.line = m.j2 := by
  rw [m.line_ns (by omega), show m.ns = [] by unfold Mv.ns; rw [if_neg (by omega), if_neg (by omega), if_neg (by omega)]]
  simp [Mv.j2]
/-- The names. -/
theorem nms (w : World) (i : Nat) {l : List UInt8} (h : kws[i]? = some l) : (w.alloc (.cells #[.string (ByteArray.mk #[]), .string (ByteArray.mk #[119, 114, 105, 116, 101]), .string (ByteArray.mk #[115, 101, 110, 100]), .string (ByteArray.mk #[100, 101, 108, 105, 118, 101, 114]), .string (ByteArray.mk #[103, 97, 114, 98, 108, 101]), .string (ByteArray.mk #[116, 105, 99, 107]), .string (ByteArray.mk #[97, 99, 107]), .string (ByteArray.mk #[114, 101, 115, 101, 116]), .string (ByteArray.mk #[99, 117, 116])] 9)).cell? ⟨w.heap.size, i, none⟩ = some (.string (tx l)) := by
  rw [cell_of_row _ w.heap.size i _ _ _ (heap_alloc_new w (.cells #[.string (ByteArray.mk #[]), .string (ByteArray.mk #[119, 114, 105, 116, 101]), .string (ByteArray.mk #[115, 101, 110, 100]), .string (ByteArray.mk #[100, 101, 108, 105, 118, 101, 114]), .string (ByteArray.mk #[103, 97, 114, 98, 108, 101]), .string (ByteArray.mk #[116, 105, 99, 107]), .string (ByteArray.mk #[97, 99, 107]), .string (ByteArray.mk #[114, 101, 115, 101, 116]), .string (ByteArray.mk #[99, 117, 116])] 9))]
  have e : (#[.string (ByteArray.mk #[]), .string (ByteArray.mk #[119, 114, 105, 116, 101]), .string (ByteArray.mk #[115, 101, 110, 100]), .string (ByteArray.mk #[100, 101, 108, 105, 118, 101, 114]), .string (ByteArray.mk #[103, 97, 114, 98, 108, 101]), .string (ByteArray.mk #[116, 105, 99, 107]), .string (ByteArray.mk #[97, 99, 107]), .string (ByteArray.mk #[114, 101, 115, 101, 116]), .string (ByteArray.mk #[99, 117, 116])] : Array Value) = (kws.map fun l => .string (tx l)).toArray := rfl
  rw [e, List.getElem?_toArray, List.getElem?_map, h]
  rfl
end Go.Proofs.YtnmnjcjfgbpkaaaDoor
namespace Go.Proofs.YtnmnjcjfgbpkaaaDoor
set_option maxRecDepth 100000
open Go.RowKit Go.Maps
set_option maxRecDepth 100000
theorem mv_cells (w : World) (o : Array Value) (wx : World) (hb : Below (w.alloc (.cells o 45)).heap.size (w.alloc (.cells o 45)) wx) (i : Nat) : wx.cell? ⟨w.heap.size, i, none⟩ = o[i]? := by
  rw [hb.cell (p := ⟨w.heap.size, i, none⟩) (by simp)]
  exact cell_of_row _ _ _ _ _ _ (heap_alloc_new _ _)
theorem mv_frozen (w : World) (o : Array Value) (i : Nat) (wx : World) (hb : Below (w.alloc (.cells o 45)).heap.size (w.alloc (.cells o 45)) wx) : wx.frozen? ⟨w.heap.size, i, none⟩ = false := by
  rw [hb.frozen (p := ⟨w.heap.size, i, none⟩) (by simp)]
  simp
set_option maxHeartbeats 2000000 in
theorem pcopymB (m : Mv) (d : Option Addr) (e : Nat) (w : World) (hr : Row8 w d m.l e m.b) (hlen : m.l ≤ 1000000) : Calls Tryd.prog 31 #[.agg #[.int .i64 m.k, .int .i64 m.c, .int .i64 m.s, .int .i64 m.f, .int .i64 m.a, .int .u32 (m.w : Nat), .int .i64 m.n, .bool m.h, .slice d m.l e]] w fun r w' => ∃ a' c', r = .returned (.agg #[.int .i64 m.k, .int .i64 m.c, .int .i64 m.s, .int .i64 m.f, .int .i64 m.a, .int .u32 (m.w : Nat), .int .i64 m.n, .bool m.h, .slice a' m.l c']) ∧ Hid (Row8 w' a' m.l c' m.b ∧ Below w.heap.size w w' ∧ ∀ y, a' = some y → 0 < m.l → w.heap.size ≤ y.block) := by
  obtain ⟨i0, hi, hz0, hz1, hz2⟩ := info_parts info_u8
  have hbd := build0S
  have hX := fun wx hb => mv_cells w #[.int .i64 m.k, .int .i64 m.c, .int .i64 m.s, .int .i64 m.f, .int .i64 m.a, .int .u32 (m.w : Nat), .int .i64 m.n, .bool m.h, .slice d m.l e] wx hb
  have hXf := fun i wx hb => mv_frozen w #[.int .i64 m.k, .int .i64 m.c, .int .i64 m.s, .int .i64 m.f, .int .i64 m.a, .int .u32 (m.w : Nat), .int .i64 m.n, .bool m.h, .slice d m.l e] i wx hb
  obtain ⟨wa, hwa⟩ : ∃ x, x = w.alloc (.cells #[.int .i64 m.k, .int .i64 m.c, .int .i64 m.s, .int .i64 m.f, .int .i64 m.a, .int .u32 (m.w : Nat), .int .i64 m.n, .bool m.h, .slice d m.l e] 45) := ⟨_, rfl⟩
  rw [← hwa] at hX hXf
  have hA : Below w.heap.size w wa := by rw [hwa]; exact (Below.refl _ _).alloc (Nat.le_refl _) _
  have hAs : wa.heap.size = w.heap.size + 1 := by rw [hwa]; simp
  have hY := fun wx hb => mv_cells wa #[.int .i64 0, .int .i64 0, .int .i64 0, .int .i64 0, .int .i64 0, .int .u32 0, .int .i64 0, .bool false, .slice none 0 0] wx hb
  have hYf := fun i wx hb => mv_frozen wa #[.int .i64 0, .int .i64 0, .int .i64 0, .int .i64 0, .int .i64 0, .int .u32 0, .int .i64 0, .bool false, .slice none 0 0] i wx hb
  obtain ⟨wb, hwb⟩ : ∃ x, x = wa.alloc (.cells #[.int .i64 0, .int .i64 0, .int .i64 0, .int .i64 0, .int .i64 0, .int .u32 0, .int .i64 0, .bool false, .slice none 0 0] 45) := ⟨_, rfl⟩
  rw [← hwb] at hY hYf
  have hB : Below wa.heap.size wa wb := by rw [hwb]; exact (Below.refl _ _).alloc (Nat.le_refl _) _
  have hBs : wb.heap.size = w.heap.size + 1 + 1 := by rw [hwb, hwa]; simp
  have hC : Below wb.heap.size wb (wb.alloc (.cells #[] 5)) := (Below.refl _ _).alloc (Nat.le_refl _) _
  have O0 : (wb.alloc (.cells #[] 5)).ownsRow wb.heap.size 5 1 (.slice (some ⟨wb.heap.size, 0, none⟩) 0 0) 0 (CB m.b 0) := World.ownsRow_made wb #[] 0 (Nat.le_refl _) (Nat.zero_le _) rfl
  have hszC := hC.size
  have R0 := ((hr.below hA).below hB).below hC
  rw [hAs] at hY hYf
  go_enter Tryd.func31, Tryd.ntmps31
  go_upto_region 1 with fail
  try rw [← hwa]
  try rw [← hwb]
  have H0 : Hid (_) := And.intro hwa (And.intro hwb (And.intro hAs hBs))
  clear hwa hwb
  have x8 : (wb.alloc (.cells #[] 5)).cell? ⟨w.heap.size, 8, none⟩ = some (.slice d m.l e) := hX (wb.alloc (.cells #[] 5)) (hB.trans (hC.mono (by omega))) 8
  clear hAs hBs
  go_wp2_with (at_builtin; refine wpList_append_row8 rfl (.tmp 3) (.tmp 5) 43 rfl wb.heap.size 5 i0 (.int .u8 0) Tryd.underlying43 hi hz0 hz1 hz2 rfl _ 0 _ rfl O0 d m.l e m.b rfl R0 (by unfold maxLen; omega) (by omega) hszC ?_)
  intro v2 w2 hown2 hgrow2
  have hbel2 : Below wb.heap.size wb w2 := hC.grown hgrow2 hszC (fun j hj => (O0.lt j hj).1)
  rw [show CB m.b 0 = [] from rfl, List.nil_append] at hown2
  have hlt : w.heap.size < wb.heap.size ∧ w.heap.size + 1 < wb.heap.size := by have := H0.out; omega
  have hbelA : Below wa.heap.size wa w2 := hB.trans (hbel2.mono (by have := H0.out; omega))
  have x0 : w2.cell? ⟨w.heap.size, 0, none⟩ = some ((.int .i64 m.k)) := hX w2 hbelA 0
  have x1 : w2.cell? ⟨w.heap.size, 1, none⟩ = some ((.int .i64 m.c)) := hX w2 hbelA 1
  have x2 : w2.cell? ⟨w.heap.size, 2, none⟩ = some ((.int .i64 m.s)) := hX w2 hbelA 2
  have x3 : w2.cell? ⟨w.heap.size, 3, none⟩ = some ((.int .i64 m.f)) := hX w2 hbelA 3
  have x4 : w2.cell? ⟨w.heap.size, 4, none⟩ = some ((.int .i64 m.a)) := hX w2 hbelA 4
  have x5 : w2.cell? ⟨w.heap.size, 5, none⟩ = some ((.int .u32 (m.w : Nat))) := hX w2 hbelA 5
  have x6 : w2.cell? ⟨w.heap.size, 6, none⟩ = some ((.int .i64 m.n)) := hX w2 hbelA 6
  have x7 : w2.cell? ⟨w.heap.size, 7, none⟩ = some ((.bool m.h)) := hX w2 hbelA 7
  have x8 : w2.cell? ⟨w.heap.size, 8, none⟩ = some ((.slice d m.l e)) := hX w2 hbelA 8
  have y0 : w2.cell? ⟨w.heap.size + 1, 0, none⟩ = some (.int .i64 0) := hY w2 hbel2 0
  have y1 : w2.cell? ⟨w.heap.size + 1, 1, none⟩ = some (.int .i64 0) := hY w2 hbel2 1
  have y2 : w2.cell? ⟨w.heap.size + 1, 2, none⟩ = some (.int .i64 0) := hY w2 hbel2 2
  have y3 : w2.cell? ⟨w.heap.size + 1, 3, none⟩ = some (.int .i64 0) := hY w2 hbel2 3
  have y4 : w2.cell? ⟨w.heap.size + 1, 4, none⟩ = some (.int .i64 0) := hY w2 hbel2 4
  have y5 : w2.cell? ⟨w.heap.size + 1, 5, none⟩ = some (.int .u32 0) := hY w2 hbel2 5
  have y6 : w2.cell? ⟨w.heap.size + 1, 6, none⟩ = some (.int .i64 0) := hY w2 hbel2 6
  have y7 : w2.cell? ⟨w.heap.size + 1, 7, none⟩ = some (.bool false) := hY w2 hbel2 7
  have y8 : w2.cell? ⟨w.heap.size + 1, 8, none⟩ = some (.slice none 0 0) := hY w2 hbel2 8
  have xf := fun i => hXf i w2 hbelA
  have yf := fun i => hYf i w2 hbel2
  obtain ⟨a2, c2, rfl, R2⟩ := own_row8 hown2 hr.byte
  have HR : Hid (w2.ownsRow wb.heap.size 5 1 (.slice a2 m.l c2) m.l (CB m.b m.l) ∧ Below wb.heap.size wb w2) := ⟨hown2, hbel2⟩
  clear hgrow2 O0 R0 hC hszC hX hY hXf hYf hown2 R2 hbel2 hbelA hbd
  go_wp2_with fail
  refine bodyPost_ret (v := .agg #[.int .i64 m.k, .int .i64 m.c, .int .i64 m.s, .int .i64 m.f, .int .i64 m.a, .int .u32 (m.w : Nat), .int .i64 m.n, .bool m.h, .slice a2 m.l c2]) (by simp [results, Tryd.results31, go_sem, y0, y1, y2, y3, y4, y5, y6, y7, y8]) rfl ⟨a2, c2, rfl, ?_, ?_, ?_⟩
  · obtain ⟨a3, c3, e, R3⟩ := own_row8 (ownsRow_setCell_below (ownsRow_setCell_below (ownsRow_setCell_below (ownsRow_setCell_below (ownsRow_setCell_below (ownsRow_setCell_below (ownsRow_setCell_below (ownsRow_setCell_below (ownsRow_setCell_below (ownsRow_setCell_below HR.out.1 (a := ⟨w.heap.size, 8, none⟩) hlt.1 _) (a := ⟨w.heap.size + 1, 0, none⟩) hlt.2 _) (a := ⟨w.heap.size + 1, 1, none⟩) hlt.2 _) (a := ⟨w.heap.size + 1, 2, none⟩) hlt.2 _) (a := ⟨w.heap.size + 1, 3, none⟩) hlt.2 _) (a := ⟨w.heap.size + 1, 4, none⟩) hlt.2 _) (a := ⟨w.heap.size + 1, 5, none⟩) hlt.2 _) (a := ⟨w.heap.size + 1, 6, none⟩) hlt.2 _) (a := ⟨w.heap.size + 1, 7, none⟩) hlt.2 _) (a := ⟨w.heap.size + 1, 8, none⟩) hlt.2 _) hr.byte
    simp only [Value.slice.injEq, true_and] at e
    obtain ⟨rfl, rfl⟩ := e
    exact R3
  · have hb : Below w.heap.size w w2 := (hA.trans (hB.mono (by have := H0.out; omega))).trans (HR.out.2.mono (by omega))
    exact ((((((((((hb.setCell (p := ⟨w.heap.size, 8, none⟩) (Nat.le_refl _) _).setCell (p := ⟨w.heap.size + 1, 0, none⟩) (Nat.le_succ _) _).setCell (p := ⟨w.heap.size + 1, 1, none⟩) (Nat.le_succ _) _).setCell (p := ⟨w.heap.size + 1, 2, none⟩) (Nat.le_succ _) _).setCell (p := ⟨w.heap.size + 1, 3, none⟩) (Nat.le_succ _) _).setCell (p := ⟨w.heap.size + 1, 4, none⟩) (Nat.le_succ _) _).setCell (p := ⟨w.heap.size + 1, 5, none⟩) (Nat.le_succ _) _).setCell (p := ⟨w.heap.size + 1, 6, none⟩) (Nat.le_succ _) _).setCell (p := ⟨w.heap.size + 1, 7, none⟩) (Nat.le_succ _) _).setCell (p := ⟨w.heap.size + 1, 8, none⟩) (Nat.le_succ _) _)
  · intro y hy hn
    rcases HR.out.1.2 with ⟨e, _⟩ | ⟨g, cap, cur, e, hg, _⟩
    · simp only [Value.slice.injEq] at e
      rw [e.1] at hy
      cases hy
    · simp only [Value.slice.injEq] at e
      rw [e.1] at hy
      cases hy
      have := hlt.1
      show w.heap.size ≤ g
      omega
theorem pcopym (m : Mv) (d : Option Addr) (e : Nat) (w : World) (hr : Row8 w d m.l e m.b) (hlen : m.l ≤ 1000000) : Calls Tryd.prog 31 #[.agg #[.int .i64 m.k, .int .i64 m.c, .int .i64 m.s, .int .i64 m.f, .int .i64 m.a, .int .u32 (m.w : Nat), .int .i64 m.n, .bool m.h, .slice d m.l e]] w fun r w' => ∃ a' c', r = .returned (.agg #[.int .i64 m.k, .int .i64 m.c, .int .i64 m.s, .int .i64 m.f, .int .i64 m.a, .int .u32 (m.w : Nat), .int .i64 m.n, .bool m.h, .slice a' m.l c']) ∧ Hid (Row8 w' a' m.l c' m.b ∧ Below w.heap.size w w') := by
  refine (pcopymB m d e w hr hlen).mono ?_
  rintro r w' ⟨a', c', rfl, h⟩
  exact ⟨a', c', rfl, h.out.1, h.out.2.1⟩
end Go.Proofs.YtnmnjcjfgbpkaaaDoor
