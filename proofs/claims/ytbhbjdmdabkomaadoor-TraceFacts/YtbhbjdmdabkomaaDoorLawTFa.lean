/- TraceFacts (P21.3): a fact's line is the document's. (gentq6.py) -/
import Derived.Test.YtbhbjdmdabkomaaDoorTq6
import Derived.Test.YtbhbjdmdabkomaaDoorSco
namespace Go.Proofs.YtbhbjdmdabkomaaDoor
set_option maxRecDepth 100000
open Go.RowKit Go.Maps
set_option maxRecDepth 100000
/-- Facts that came in. -/
def FkRow (w : World) (a : Option Addr) (len : Nat) (F : Nat → Fk) (D : Nat → Option Addr) (E : Nat → Nat) : Prop := ∀ i, i < len → ∃ b off, a = some ⟨b, off, none⟩ ∧ w.cell? ⟨b, off + i * 8, none⟩ = some (.int .i64 (F i).k) ∧ w.cell? ⟨b, off + i * 8 + 1, none⟩ = some (.int .i64 (F i).c) ∧ w.cell? ⟨b, off + i * 8 + 2, none⟩ = some (.int .i64 (F i).s) ∧ w.cell? ⟨b, off + i * 8 + 3, none⟩ = some (.int .u32 ((F i).ss : Nat)) ∧ w.cell? ⟨b, off + i * 8 + 4, none⟩ = some (.int .u32 ((F i).nn : Nat)) ∧ w.cell? ⟨b, off + i * 8 + 5, none⟩ = some (.bool (F i).on) ∧ w.cell? ⟨b, off + i * 8 + 6, none⟩ = some (.int .i64 (F i).cd) ∧ w.cell? ⟨b, off + i * 8 + 7, none⟩ = some (.slice (D i) (F i).l (E i)) ∧ Row8 w (D i) (F i).l (E i) (F i).b ∧ (F i).Ok
theorem FkRow.below {w w' : World} {a : Option Addr} {len : Nat} {F : Nat → Fk} {D : Nat → Option Addr} {E : Nat → Nat} (h : FkRow w a len F D E) (b : Below w.heap.size w w') : FkRow w' a len F D E := fun i hi => by
  obtain ⟨q, off, e, c0, c1, c2, c3, c4, c5, c6, c7, R, ok⟩ := h i hi
  exact ⟨q, off, e, cellB c0 b, cellB c1 b, cellB c2 b, cellB c3 b, cellB c4 b, cellB c5 b, cellB c6 b, cellB c7 b, R.below b, ok⟩
theorem FkW.set {w : World} {b : Nat} {f : Fk} {d : Option Addr} {e : Nat} (h : FkW w b f d e) (a : Option Addr) (c : Nat) : FkW (w.setCell ⟨b, 7, none⟩ (.slice a f.l c)) b f a c := ⟨by simp [World.setCell, Array.getElem?_modify, h.blk]⟩
set_option maxHeartbeats 2000000 in
theorem traceFacts_any (a : Option Addr) (len cap : Nat) (F : Nat → Fk) (D : Nat → Option Addr) (E : Nat → Nat) (w : World) (hr : FkRow w a len F D E) (hlen : len ≤ 9223372036854775807) (L : Lt w) : Calls Tryd.prog 13 #[.slice a len cap] w fun r w' => r = .returned (.bool true) ∧ Below w.heap.size w w' := by
  have hA := awake21 w L
  have HW : Hid (_) := And.intro hr L
  clear hr L
  go_enter Tryd.func13, Tryd.ntmps13
  go_wp2_with fail
  refine hA.mono ?_
  rintro r w1 ⟨rfl, b1⟩
  have H1 : Hid (_) := b1
  clear hA b1
  go_wp2_with fail
  go_loopw [2, 3, 4, 7, 8, 9, 10, 11, 12, 13, 14, 15, 16, 17, 18, 19, 20, 21, 22, 23, 24, 25, 26, 27, 28, 29, 30, 31, 32, 33, 34, 35, 36, 37, 38, 39, 40] (fun _ c _ _ _ _ _ _ _ _ _ _ _ _ _ _ _ _ _ _ _ _ _ _ _ _ _ _ _ _ _ _ _ _ _ _ _ wr => ∃ i : Nat, i ≤ len ∧ c = .int .i64 ((i : Nat) : Int) ∧ Hid (Below w.heap.size w wr)) (fun _ c _ _ _ _ _ _ _ _ _ _ _ _ _ _ _ _ _ _ _ _ _ _ _ _ _ _ _ _ _ _ _ _ _ _ _ _ => len - natV c)
  case atStart => exact ⟨0, by omega, rfl, H1⟩
  case round =>
    clear H1
    obtain ⟨i, hi, rfl, HI⟩ := hrel
    by_cases hlt : i < len
    rotate_left
    · have hlt' : ¬ ((i : Nat) : Int) < ((len : Nat) : Int) := by omega
      go_wp2_with fail
      go_ret
      exact ⟨rfl, HI.out⟩
    have hlt' : ((i : Nat) : Int) < ((len : Nat) : Int) := by omega
    by_cases h300 : i < 300
    rotate_left
    · have h3' : ¬ ((i : Nat) : Int) < 300 := by omega
      go_wp2_with fail
      go_ret
      exact ⟨rfl, HI.out⟩
    have h3' : ((i : Nat) : Int) < 300 := by omega
    obtain ⟨q, off, ea, c0, c1, c2', c3, c4, c5, c6, c7, R, ok⟩ := (HW.out.1.below HI.out) i hlt
    subst ea
    obtain ⟨f, hf⟩ : ∃ f, F i = f := ⟨_, rfl⟩
    obtain ⟨d, hd⟩ : ∃ f, D i = f := ⟨_, rfl⟩
    obtain ⟨e, he⟩ : ∃ f, E i = f := ⟨_, rfl⟩
    rw [hf] at c0 c1 c2' c3 c4 c5 c6 c7 R ok
    rw [hd, he] at c7 R
    clear hf hd he
    have hw1 : IntKind.i64.wrap (((i : Nat) : Int) + 1) = ((i + 1 : Nat) : Int) := by rw [IntKind.wrap_i64]; omega
    by_cases h5 : 500 < f.l
    · have h5' : (500 : Int) < ((f.l : Nat) : Int) := by omega
      clear c0 c1 c2' c3 c4 c5 c6 R ok
      go_wp2_with fail
      go_ret
      exact ⟨rfl, HI.out⟩
    have h5' : ¬ (500 : Int) < ((f.l : Nat) : Int) := by omega
    have HR : Hid (_) := And.intro R ok
    have HL : Hid (f.l ≤ 500) := by show f.l ≤ 500; omega
    clear R ok h5
    obtain ⟨i0, hi0, hz0, hz1, hz2⟩ := info_parts info_u8
    have hbd := build0S
    obtain ⟨wb, hwb⟩ : ∃ x, wr.alloc (.cells #[.int .i64 f.k, .int .i64 f.c, .int .i64 f.s, .int .u32 (f.ss : Nat), .int .u32 (f.nn : Nat), .bool f.on, .int .i64 f.cd, .slice d f.l e] 91) = x := ⟨_, rfl⟩
    obtain ⟨g, hg⟩ : ∃ x, wr.heap.size = x := ⟨_, rfl⟩
    have bB : Below wr.heap.size wr wb := by rw [← hwb]; exact belA (Below.refl _ _) _
    have fB : FkW wb g f d e := by rw [← hwb, ← hg]; exact FkW.new wr f d e
    have hC := belA (Below.refl _ wb) (.cells #[] 5)
    have O0 : (wb.alloc (.cells #[] 5)).ownsRow wb.heap.size 5 1 (.slice (some ⟨wb.heap.size, 0, none⟩) 0 0) 0 (CB f.b 0) := World.ownsRow_made wb #[] 0 (Nat.le_refl _) (Nat.zero_le _) rfl
    have R0 := (HR.out.1.below bB).below hC
    have x7 := (fB.below hC).cells.2.2.2.2.2.2.2
    have hszC := hC.size
    go_upto_region 9 with fail
    try rw [hwb]
    try rw [hg]
    clear hwb
    go_wp2_with (at_builtin; refine wpList_append_row8 rfl (.tmp 28) (.tmp 30) 27 rfl wb.heap.size 5 i0 (.int .u8 0) Tryd.underlying27 hi0 hz0 hz1 hz2 rfl _ 0 _ rfl O0 d f.l e f.b rfl R0 (by have := HL.out; unfold maxLen; omega) (by have := HL.out; omega) hszC ?_)
    intro v2 w2 hown2 hgrow2
    have hb2 : Below wb.heap.size wb w2 := hC.grown hgrow2 hszC (fun j hj => (O0.lt j hj).1)
    rw [show CB f.b 0 = [] from rfl, List.nil_append] at hown2
    have f2 := fB.below hb2
    have hgb : g < wb.heap.size := (Array.getElem?_eq_some_iff.1 fB.blk).1
    obtain ⟨a2, c2, rfl, _⟩ := own_row8 hown2 HR.out.1.byte
    obtain ⟨_, _, _, _, _, _, _, y7⟩ := f2.cells
    have yf : w2.frozen? ⟨g, 7, none⟩ = false := Lib.frozen_of_heap f2.blk 7
    obtain ⟨w3, hw3⟩ : ∃ x, w2.setCell ⟨g, 7, none⟩ (.slice a2 f.l c2) = x := ⟨_, rfl⟩
    have f3 : FkW w3 g f a2 c2 := by rw [← hw3]; exact f2.set a2 c2
    have b3 : Below wr.heap.size wr w3 := by
      rw [← hw3]
      exact (bB.trans (hb2.mono bB.size)).setCell (p := ⟨g, 7, none⟩) (by rw [hg]; exact Nat.le_refl _) _
    have R3 : Row8 w3 a2 f.l c2 f.b := by
      obtain ⟨a3, c3, q3, R3⟩ := own_row8 (ownsRow_setCell_below hown2 (a := ⟨g, 7, none⟩) hgb (.slice a2 f.l c2)) HR.out.1.byte
      simp only [Value.slice.injEq, true_and] at q3
      obtain ⟨rfl, rfl⟩ := q3
      rw [← hw3]
      exact R3
    have H3 : Hid (_) := And.intro f3 (And.intro b3 R3)
    go_upto_region 10 with fail
    try rw [hw3]
    clear hw3 f3 b3 R3 hown2 hgrow2 hb2 f2 y7 yf O0 R0 x7 hC hszC bB fB hgb hbd
    obtain ⟨X, hX⟩ : ∃ x, tx f.line = x := ⟨_, rfl⟩
    have t1 : ∀ wx, Below w3.heap.size w3 wx → Calls Tryd.prog 48 #[.agg #[.int .i64 f.k, .int .i64 f.c, .int .i64 f.s, .int .u32 (f.ss : Nat), .int .u32 (f.nn : Nat), .bool f.on, .int .i64 f.cd, .slice a2 f.l c2]] wx fun r w' => ∃ v, r = .returned v ∧ (v = .string X ∧ Below w3.heap.size w3 w') := fun wx bx => by
      refine (tfact f HR.out.2 a2 c2 wx (H3.out.2.2.below bx) (by have := HL.out; omega) ((HW.out.2.below HI.out).below (belTS bx H3.out.2.1))).mono ?_
      rintro r w' ⟨rfl, b⟩
      exact ⟨_, rfl, by rw [hX], belTS b bx⟩
    have t2 : ∀ wx, Below w3.heap.size w3 wx → Calls Tryd.prog 49 #[.agg #[.int .i64 f.k, .int .i64 f.c, .int .i64 f.s, .int .u32 (f.ss : Nat), .int .u32 (f.nn : Nat), .bool f.on, .int .i64 f.cd, .slice d f.l e]] wx fun r w' => ∃ v, r = .returned v ∧ (v = .string X ∧ Below w3.heap.size w3 w') := fun wx bx => by
      refine (rfact f HR.out.2 d e wx (HR.out.1.below (belTS bx H3.out.2.1)) (by have := HL.out; omega)).mono ?_
      rintro r w' ⟨rfl, b⟩
      exact ⟨_, rfl, by rw [hX], belTS b bx⟩
    have k0 := cellB c0 H3.out.2.1
    have k1 := cellB c1 H3.out.2.1
    have k2 := cellB c2' H3.out.2.1
    have k3 := cellB c3 H3.out.2.1
    have k4 := cellB c4 H3.out.2.1
    have k5 := cellB c5 H3.out.2.1
    have k6 := cellB c6 H3.out.2.1
    have k7 := cellB c7 H3.out.2.1
    have hS : ∀ wx, Below w3.heap.size w3 wx → wx.cell? ⟨g, 0, none⟩ = some (.int .i64 f.k) ∧ wx.cell? ⟨g, 1, none⟩ = some (.int .i64 f.c) ∧ wx.cell? ⟨g, 2, none⟩ = some (.int .i64 f.s) ∧ wx.cell? ⟨g, 3, none⟩ = some (.int .u32 (f.ss : Nat)) ∧ wx.cell? ⟨g, 4, none⟩ = some (.int .u32 (f.nn : Nat)) ∧ wx.cell? ⟨g, 5, none⟩ = some (.bool f.on) ∧ wx.cell? ⟨g, 6, none⟩ = some (.int .i64 f.cd) ∧ wx.cell? ⟨g, 7, none⟩ = some (.slice a2 f.l c2) ∧ wx.cell? ⟨q, off + i * 8, none⟩ = some (.int .i64 f.k) ∧ wx.cell? ⟨q, off + i * 8 + 1, none⟩ = some (.int .i64 f.c) ∧ wx.cell? ⟨q, off + i * 8 + 2, none⟩ = some (.int .i64 f.s) ∧ wx.cell? ⟨q, off + i * 8 + 3, none⟩ = some (.int .u32 (f.ss : Nat)) ∧ wx.cell? ⟨q, off + i * 8 + 4, none⟩ = some (.int .u32 (f.nn : Nat)) ∧ wx.cell? ⟨q, off + i * 8 + 5, none⟩ = some (.bool f.on) ∧ wx.cell? ⟨q, off + i * 8 + 6, none⟩ = some (.int .i64 f.cd) ∧ wx.cell? ⟨q, off + i * 8 + 7, none⟩ = some (.slice d f.l e) := fun wx bx => by
      obtain ⟨p0, p1, p2, p3, p4, p5, p6, p7⟩ := (H3.out.1.below bx).cells
      exact ⟨p0, p1, p2, p3, p4, p5, p6, p7, cellB k0 bx, cellB k1 bx, cellB k2 bx, cellB k3 bx, cellB k4 bx, cellB k5 bx, cellB k6 bx, cellB k7 bx⟩
    have B0 : Below w3.heap.size w3 w3.drew := Below.drew (Below.refl _ _)
    have HSd := hS _ B0
    clear c0 c1 c2' c3 c4 c5 c6 c7 hX hi0 hz0 hz1 hz2
    go_wp2_with fail
    go_region_held3 (fun wx => wx.cell? ⟨g, 0, none⟩ = some (.int .i64 f.k) ∧ wx.cell? ⟨g, 1, none⟩ = some (.int .i64 f.c) ∧ wx.cell? ⟨g, 2, none⟩ = some (.int .i64 f.s) ∧ wx.cell? ⟨g, 3, none⟩ = some (.int .u32 (f.ss : Nat)) ∧ wx.cell? ⟨g, 4, none⟩ = some (.int .u32 (f.nn : Nat)) ∧ wx.cell? ⟨g, 5, none⟩ = some (.bool f.on) ∧ wx.cell? ⟨g, 6, none⟩ = some (.int .i64 f.cd) ∧ wx.cell? ⟨g, 7, none⟩ = some (.slice a2 f.l c2) ∧ wx.cell? ⟨q, off + i * 8, none⟩ = some (.int .i64 f.k) ∧ wx.cell? ⟨q, off + i * 8 + 1, none⟩ = some (.int .i64 f.c) ∧ wx.cell? ⟨q, off + i * 8 + 2, none⟩ = some (.int .i64 f.s) ∧ wx.cell? ⟨q, off + i * 8 + 3, none⟩ = some (.int .u32 (f.ss : Nat)) ∧ wx.cell? ⟨q, off + i * 8 + 4, none⟩ = some (.int .u32 (f.nn : Nat)) ∧ wx.cell? ⟨q, off + i * 8 + 5, none⟩ = some (.bool f.on) ∧ wx.cell? ⟨q, off + i * 8 + 6, none⟩ = some (.int .i64 f.cd) ∧ wx.cell? ⟨q, off + i * 8 + 7, none⟩ = some (.slice d f.l e)) (first | assumption | exact hS _ (by assumption)) (first
      | (refine step_callS 48 #[.tmp 33] #[91] rfl (by kernel_rfl) #[.agg #[.int .i64 f.k, .int .i64 f.c, .int .i64 f.s, .int .u32 (f.ss : Nat), .int .u32 (f.nn : Nat), .bool f.on, .int .i64 f.cd, .slice a2 f.l c2]] (by kernel_rfl) (t1 _ (by assumption)) ?_; rintro x v1 ⟨rfl, b1⟩)
      | (refine step_callS 49 #[.tmp 38] #[91] rfl (by kernel_rfl) #[.agg #[.int .i64 f.k, .int .i64 f.c, .int .i64 f.s, .int .u32 (f.ss : Nat), .int .u32 (f.nn : Nat), .bool f.on, .int .i64 f.cd, .slice d f.l e]] (by kernel_rfl) (t2 _ (by assumption)) ?_; rintro x v2 ⟨rfl, b2⟩)
      | fail)
    have HF : Hid (Below w.heap.size w v2) := HI.out.trans ((H3.out.2.1.mono HI.out.size).trans (b2.mono (Nat.le_trans HI.out.size H3.out.2.1.size)))
    rename (World.cell? _ _ = _ ∧ _) => hHd
    clear hHd hS HSd B0 t1 t2 b1 b2 k0 k1 k2 k3 k4 k5 k6 k7 H3
    go_wp2_with fail
    go_roundw
    case rel => exact ⟨i + 1, by omega, by first | rfl | go_num, HF⟩
    case measure => simp [natV] <;> omega
end Go.Proofs.YtbhbjdmdabkomaaDoor
