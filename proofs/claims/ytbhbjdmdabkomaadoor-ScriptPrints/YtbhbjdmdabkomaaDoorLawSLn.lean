/- ScriptLines (P20.1): a set's words and a move's line are the document's. (gensln.py) -/
import Derived.Test.YtbhbjdmdabkomaaDoorSaw
namespace Go.Proofs.YtbhbjdmdabkomaaDoor
set_option maxRecDepth 100000
open Go.RowKit Go.Maps
set_option maxRecDepth 100000
set_option maxHeartbeats 2000000 in
theorem scriptLines_any (p : Ps) (hp : p.Ok) (m : Mv) (hm : m.Ok) (d : Option Addr) (e : Nat) (w : World) (hr : Row8 w d m.l e m.b) (L : Lw w) : Calls Tryd.prog 3 #[.agg #[.int .u32 (p.c : Nat), .int .i64 p.o, .int .i64 p.i, .int .i64 p.t, .int .u32 (p.n : Nat)], .agg #[.int .i64 m.k, .int .i64 m.c, .int .i64 m.s, .int .i64 m.f, .int .i64 m.a, .int .u32 (m.w : Nat), .int .i64 m.n, .bool m.h, .slice d m.l e]] w fun r w' => r = .returned (.bool true) ∧ Below w.heap.size w w' := by
  obtain ⟨wa, hwa⟩ : ∃ x, w.alloc (.cells #[.int .u32 (p.c : Nat), .int .i64 p.o, .int .i64 p.i, .int .i64 p.t, .int .u32 (p.n : Nat)] 24) = x := ⟨_, rfl⟩
  have ba : Below w.heap.size w wa := by rw [← hwa]; exact belA (Below.refl _ _) _
  have na : wa.heap.size = w.heap.size + 1 := by rw [← hwa]; simp
  have pa : Bk wa w.heap.size #[.int .u32 (p.c : Nat), .int .i64 p.o, .int .i64 p.i, .int .i64 p.t, .int .u32 (p.n : Nat)] 24 := by rw [← hwa]; exact Bk.new _ _ _
  have ma : MvW (wa.alloc (.cells #[.int .i64 m.k, .int .i64 m.c, .int .i64 m.s, .int .i64 m.f, .int .i64 m.a, .int .u32 (m.w : Nat), .int .i64 m.n, .bool m.h, .slice d m.l e] 29)) wa.heap.size m d e := MvW.new wa m d e
  have bb := belA (Below.refl _ wa) (.cells #[.int .i64 m.k, .int .i64 m.c, .int .i64 m.s, .int .i64 m.f, .int .i64 m.a, .int .u32 (m.w : Nat), .int .i64 m.n, .bool m.h, .slice d m.l e] 29)
  obtain ⟨W, hW⟩ : ∃ x, wa.alloc (.cells #[.int .i64 m.k, .int .i64 m.c, .int .i64 m.s, .int .i64 m.f, .int .i64 m.a, .int .u32 (m.w : Nat), .int .i64 m.n, .bool m.h, .slice d m.l e] 29) = x := ⟨_, rfl⟩
  rw [hW] at ma bb
  rw [na] at ma
  have B : Below w.heap.size w W := ba.trans (bb.mono ba.size)
  have pB : Bk W w.heap.size #[.int .u32 (p.c : Nat), .int .i64 p.o, .int .i64 p.i, .int .i64 p.t, .int .u32 (p.n : Nat)] 24 := pa.off (Off.of_below (l := []) bb) (by simp)
  have hA := awake20 W (L.below B)
  have HB : Hid (_) := And.intro B (And.intro pB (And.intro ma (And.intro (hr.below B) (And.intro (L.below B) (And.intro hp hm)))))
  obtain ⟨c0, c1, c2, c3, c4, c5, c6, c7, c8⟩ := ma.cells
  clear ba pa ma bb B pB hr L hp hm c0 c1 c2 c3 c4 c5 c6 c7 c8
  go_enter Tryd.func3, Tryd.ntmps3
  go_wp2_with fail
  try rw [hwa]
  try rw [na]
  try rw [hW]
  clear hwa hW na
  refine hA.mono ?_
  rintro r w1 ⟨rfl, b1⟩
  have H1 : Hid (_) := b1
  obtain ⟨c0, c1, c2, c3, c4, c5, c6, c7, c8⟩ := (HB.out.2.2.1.below b1).cells
  clear hA b1
  by_cases hl : 1000 < m.l
  · have g : (1000 : Int) < ((m.l : Nat) : Int) := by omega
    clear c0 c1 c2 c3 c4 c5 c6 c7
    go_wp2_with fail
    go_ret
    exact ⟨rfl, HB.out.1.trans (H1.out.mono HB.out.1.size)⟩
  · have g : ¬ (1000 : Int) < ((m.l : Nat) : Int) := by omega
    have HL : Hid (m.l ≤ 1000) := by show m.l ≤ 1000; omega
    clear hl
    have hC := pcopym m d e w1 (HB.out.2.2.2.1.below H1.out) (by have := HL.out; omega)
    go_wp2_with fail
    refine hC.mono ?_
    rintro r w2 ⟨a', c', rfl, q2⟩
    have b2 : Below W.heap.size W w2 := belTS q2.out.2 H1.out
    have hM := pmove m HB.out.2.2.2.2.2.2 a' c' w2 q2.out.1 (by have := HL.out; omega) (HB.out.2.2.2.2.1.below b2)
    have H2 : Hid (_) := b2
    clear hC b2 q2 H1 c0 c1 c2 c3 c4 c5 c6 c7 c8
    go_wp2_with fail
    refine hM.mono ?_
    rintro r w3 ⟨rfl, b3⟩
    have B3 := belTS b3 H2.out
    obtain ⟨c0, c1, c2, c3, c4, c5, c6, c7, c8⟩ := (HB.out.2.2.1.below B3).cells
    have hN := rmove m HB.out.2.2.2.2.2.2 d e w3 (HB.out.2.2.2.1.below B3) (by have := HL.out; omega)
    have H3 : Hid (_) := B3
    obtain ⟨E, hE⟩ : ∃ x, m.err = x := ⟨_, rfl⟩
    obtain ⟨X, hX⟩ : ∃ x, (if m.err = 0 then tx m.line else ByteArray.mk #[]) = x := ⟨_, rfl⟩
    rw [hX] at hN
    try rw [hX]
    rw [hE] at hN
    try rw [hE]
    clear hM B3 b3 H2 hX hE
    go_wp2_with fail
    refine hN.mono ?_
    rintro r w4 ⟨rfl, b4⟩
    have B4 := belTS b4 H3.out
    clear hN b4 H3 c0 c1 c2 c3 c4 c5 c6 c7 c8
    have hS : ∀ wx, Below w4.heap.size w4 wx → wx.cell? ⟨w.heap.size, 0, none⟩ = some (.int .u32 (p.c : Nat)) ∧ wx.cell? ⟨w.heap.size, 1, none⟩ = some (.int .i64 p.o) ∧ wx.cell? ⟨w.heap.size, 2, none⟩ = some (.int .i64 p.i) ∧ wx.cell? ⟨w.heap.size, 3, none⟩ = some (.int .i64 p.t) ∧ wx.cell? ⟨w.heap.size, 4, none⟩ = some (.int .u32 (p.n : Nat)) := fun wx bx => by
      have h := (HB.out.2.1.off (Off.of_below (l := []) B4) (by simp)).off (Off.of_below (l := []) bx) (by simp)
      exact ⟨h.cell 0, h.cell 1, h.cell 2, h.cell 3, h.cell 4⟩
    have hP : ∀ wx, Below w4.heap.size w4 wx → Calls Tryd.prog 18 #[.agg #[.int .u32 (p.c : Nat), .int .i64 p.o, .int .i64 p.i, .int .i64 p.t, .int .u32 (p.n : Nat)]] wx fun r w' => ∃ v, r = .returned v ∧ (v = .string (tx p.line) ∧ Below w4.heap.size w4 w') := fun wx bx => (pparam p HB.out.2.2.2.2.2.1 wx (HB.out.2.2.2.2.1.below (belTS bx B4))).mono fun _ _ ⟨q, b⟩ => ⟨_, q, rfl, belTS b bx⟩
    have hQ : ∀ wx, Below w4.heap.size w4 wx → Calls Tryd.prog 19 #[.agg #[.int .u32 (p.c : Nat), .int .i64 p.o, .int .i64 p.i, .int .i64 p.t, .int .u32 (p.n : Nat)]] wx fun r w' => ∃ v, r = .returned v ∧ (v = .string (tx p.line) ∧ Below w4.heap.size w4 w') := fun wx bx => (rparam p HB.out.2.2.2.2.2.1 wx).mono fun _ _ ⟨q, b⟩ => ⟨_, q, rfl, belTS b bx⟩
    obtain ⟨Y, hY⟩ : ∃ x, tx p.line = x := ⟨_, rfl⟩
    rw [hY] at hP hQ
    clear hY
    have B0 : Below w4.heap.size w4 w4.drew := Below.drew (Below.refl _ _)
    have HSd := hS _ B0
    have H4 : Hid (Below w.heap.size w w4) := HB.out.1.trans (B4.mono HB.out.1.size)
    clear B4
    go_wp2_with fail
    go_region_held3 (fun wx => wx.cell? ⟨w.heap.size, 0, none⟩ = some (.int .u32 (p.c : Nat)) ∧ wx.cell? ⟨w.heap.size, 1, none⟩ = some (.int .i64 p.o) ∧ wx.cell? ⟨w.heap.size, 2, none⟩ = some (.int .i64 p.i) ∧ wx.cell? ⟨w.heap.size, 3, none⟩ = some (.int .i64 p.t) ∧ wx.cell? ⟨w.heap.size, 4, none⟩ = some (.int .u32 (p.n : Nat))) (first | assumption | exact hS _ (by assumption)) (first
      | (refine step_callS 18 #[.tmp 35] #[24] rfl (by kernel_rfl) #[.agg #[.int .u32 (p.c : Nat), .int .i64 p.o, .int .i64 p.i, .int .i64 p.t, .int .u32 (p.n : Nat)]] (by kernel_rfl) (hP _ (by assumption)) ?_; rintro x v1 ⟨rfl, b1⟩)
      | (refine step_callS 19 #[.tmp 37] #[24] rfl (by kernel_rfl) #[.agg #[.int .u32 (p.c : Nat), .int .i64 p.o, .int .i64 p.i, .int .i64 p.t, .int .u32 (p.n : Nat)]] (by kernel_rfl) (hQ _ (by assumption)) ?_; rintro x v2 ⟨rfl, b2⟩)
      | fail)
    all_goals
      have H5 : Hid (Below w4.heap.size w4 v2) := b2
      clear hP hQ hS HSd B0 b1 b2
      go_wp2_with fail
      go_ret
      exact ⟨rfl, H4.out.trans (H5.out.mono H4.out.size)⟩
end Go.Proofs.YtbhbjdmdabkomaaDoor
