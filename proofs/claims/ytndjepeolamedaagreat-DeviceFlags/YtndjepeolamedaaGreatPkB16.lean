/- Part 17 of the texts on which the proofs of layer 13 rest: contracts of Go functions. -/
import Derived.Test.YtndjepeolamedaaGreatPkB13
import Derived.Test.YtndjepeolamedaaGreatPkB15
namespace Go.Proofs.YtndjepeolamedaaGreat
set_option maxRecDepth 100000
open Go.RowKit
set_option maxHeartbeats 1000000 in
theorem refWordOf_any (b off len cap x0 x1 x2 x3 : Nat) (w : World) (hlen : (3 : Int) < (len : Int)) (h0 : x0 < 256) (h1 : x1 < 256) (h2 : x2 < 256) (h3 : x3 < 256)
    (c0 : w.cell? ⟨b, off, none⟩ = some (.int .u8 x0)) (c1 : w.cell? ⟨b, off + 1, none⟩ = some (.int .u8 x1)) (c2 : w.cell? ⟨b, off + 2, none⟩ = some (.int .u8 x2)) (c3 : w.cell? ⟨b, off + 3, none⟩ = some (.int .u8 x3)) :
    Calls Tryz.prog 76 #[.slice (some ⟨b, off, none⟩) len cap] w fun e w' => e = .returned (.int .u32 ((x0 * 16777216 + x1 * 65536 + x2 * 256 + x3 : Nat) : Int)) ∧ ∃ m, w' = w.drewN m := by
  have hn := word_num x0 x1 x2 x3 h0 h1 h2 h3
  have l0 : (0 : Int) < (len : Int) := by omega
  have l1 : (1 : Int) < (len : Int) := by omega
  have l2 : (2 : Int) < (len : Int) := by omega
  generalize x0 * 16777216 + x1 * 65536 + x2 * 256 + x3 = y at *
  go_enter Tryz.func76, Tryz.ntmps76
  go_wp2_with fail
  go_quiet (fail)
  go_wp2
  go_ret
  exact ⟨rfl, _, rfl⟩
theorem refWordOf_row (b off len cap i L C : Nat) (bs : Nat → Nat) (w : World) (hr : Row8 w (some ⟨b, off, none⟩) len cap bs) (h : i + 4 ≤ len) (hL : 4 ≤ L) :
    Calls Tryz.prog 76 #[.slice (some ⟨b, off + i, none⟩) L C] w fun e w' => e = .returned (.int .u32 (w4v bs i : Nat)) ∧ ∃ m, w' = w.drewN m := by
  have s := hr.src _ rfl
  have q := hr.byte
  have t0 := s i (by omega); have t1 := s (i + 1) (by omega); have t2 := s (i + 2) (by omega); have t3 := s (i + 3) (by omega)
  rw [Go.WideShapes.add_plain] at t0 t1 t2 t3
  exact refWordOf_any b (off + i) L C _ _ _ _ w (by omega) (q i (by omega)) (q (i + 1) (by omega)) (q (i + 2) (by omega)) (q (i + 3) (by omega)) t0 t1 t2 t3
set_option maxRecDepth 100000 in
set_option maxHeartbeats 1000000 in
theorem refDec_short (a : Option Addr) (len cap : Nat) (w : World) (h : len < 19) :
    Calls Tryz.prog 30 #[.slice a len cap] w fun e w' => e = .returned (.tuple #[.agg #[.int .i64 0, .int .u32 0, .int .u32 0, .int .u32 0, .int .i64 0, .slice none 0 0], .int .i64 40]) ∧ Below w.heap.size w w' := by
  have hA : Below w.heap.size w (w.alloc (.cells #[.int .i64 0, .int .u32 0, .int .u32 0, .int .u32 0, .int .i64 0, .slice none 0 0] 67)) := (Below.refl _ _).alloc (Nat.le_refl _) _
  have q : decide ((len : Int) < 19) = true := by simp; omega
  go_enter Tryz.func30, Tryz.ntmps30
  go_wp2_with fail
  refine bodyPost_ret (v := .tuple #[.agg #[.int .i64 0, .int .u32 0, .int .u32 0, .int .u32 0, .int .i64 0, .slice none 0 0], .int .i64 40]) (by simp [results, Tryz.results30, go_sem]) rfl ⟨rfl, hA⟩
set_option maxRecDepth 100000 in
set_option maxHeartbeats 1000000 in
theorem refDec_big (a : Option Addr) (len cap : Nat) (w : World) (h : 27 < len) :
    Calls Tryz.prog 30 #[.slice a len cap] w fun e w' => e = .returned (.tuple #[.agg #[.int .i64 0, .int .u32 0, .int .u32 0, .int .u32 0, .int .i64 0, .slice none 0 0], .int .i64 41]) ∧ Below w.heap.size w w' := by
  have hA : Below w.heap.size w (w.alloc (.cells #[.int .i64 0, .int .u32 0, .int .u32 0, .int .u32 0, .int .i64 0, .slice none 0 0] 67)) := (Below.refl _ _).alloc (Nat.le_refl _) _
  have q : decide ((len : Int) < 19) = false := by simp; omega
  have q2 : decide ((27 : Int) < (len : Int)) = true := by simp; omega
  go_enter Tryz.func30, Tryz.ntmps30
  go_wp2_with fail
  refine bodyPost_ret (v := .tuple #[.agg #[.int .i64 0, .int .u32 0, .int .u32 0, .int .u32 0, .int .i64 0, .slice none 0 0], .int .i64 41]) (by simp [results, Tryz.results30, go_sem]) rfl ⟨rfl, hA⟩
set_option maxRecDepth 100000 in
set_option maxHeartbeats 1000000 in
theorem refDec_check (a : Option Addr) (len cap : Nat) (bs : Nat → Nat) (w : World) (hr : Row8 w a len cap bs) (h1 : 19 ≤ len) (h2 : len ≤ 27) (hv : ¬ vld bs len) :
    Calls Tryz.prog 30 #[.slice a len cap] w fun e w' => e = .returned (.tuple #[.agg #[.int .i64 0, .int .u32 0, .int .u32 0, .int .u32 0, .int .i64 0, .slice none 0 0], .int .i64 42]) ∧ Below w.heap.size w w' := by
  have hA : Below w.heap.size w (w.alloc (.cells #[.int .i64 0, .int .u32 0, .int .u32 0, .int .u32 0, .int .i64 0, .slice none 0 0] 67)) := (Below.refl _ _).alloc (Nat.le_refl _) _
  have hV := refValid_row a len cap bs (w.alloc (.cells #[.int .i64 0, .int .u32 0, .int .u32 0, .int .u32 0, .int .i64 0, .slice none 0 0] 67)) (hr.below hA) (by omega)
  have hd : decide (4 ≤ len ∧ PM.R PM.g 32 (PM.V (PM.fb bs) (8 * len)) = 0) = false := decide_eq_false (fun e => hv e.2)
  rw [hd] at hV
  clear hd
  have q : decide ((len : Int) < 19) = false := by simp; omega
  have q2 : decide ((27 : Int) < (len : Int)) = false := by simp; omega
  have hY := box_zero w
  have hYf := fun i wx hb => unit_frozen w #[.int .i64 0, .int .u32 0, .int .u32 0, .int .u32 0, .int .i64 0, .slice none 0 0] i wx hb
  clear hv hr
  go_enter Tryz.func30, Tryz.ntmps30
  go_wp2_with fail
  generalize w.alloc (.cells #[.int .i64 0, .int .u32 0, .int .u32 0, .int .u32 0, .int .i64 0, .slice none 0 0] 67) = wa at *
  refine hV.mono ?_
  rintro e w1 ⟨rfl, hb1⟩
  have yf := fun i => hYf i w1 hb1
  obtain ⟨y0, y1, y2, y3, y4, y5⟩ := hY w1 hb1
  have HB : Hid (_) := below_all hA hA.size hb1
  clear hV hY hYf hA hb1
  go_wp2_with fail
  refine bodyPost_ret (v := .tuple #[.agg #[.int .i64 0, .int .u32 0, .int .u32 0, .int .u32 0, .int .i64 0, .slice none 0 0], .int .i64 42]) (by simp [results, Tryz.results30, go_sem, y0, y1, y2, y3, y4, y5]) rfl ⟨rfl, six_below HB.out (Nat.le_refl _) _ _ _ _ _ _⟩
theorem below_allocR {w0 w : World} (h : Below w0.heap.size w0 w) (o : Obj) : Below w0.heap.size w0 (w.alloc o) := h.alloc h.size o
theorem six_box {w2 : World} {g : Nat} {k0 : Int} {c0 s0 n0 : Nat} {f0 : Int} {v0 : Value} (h : Box w2 g k0 c0 s0 n0 f0 v0) (k : Int) (c s n : Nat) (f : Int) (v : Value) :
    Box ((((((w2.setCell ⟨g, 0, none⟩ (.int .i64 k)).setCell ⟨g, 1, none⟩ (.int .u32 c)).setCell ⟨g, 2, none⟩ (.int .u32 s)).setCell ⟨g, 3, none⟩ (.int .u32 n)).setCell ⟨g, 4, none⟩ (.int .i64 f)).setCell ⟨g, 5, none⟩ v) g k c s n f v := by
  obtain ⟨h0, h1, h2, h3, h4, h5⟩ := h
  have ne : ∀ i j : Nat, i ≠ j → (⟨g, i, none⟩ : Addr) ≠ ⟨g, j, none⟩ := fun i j hij e => hij (congrArg Addr.off e)
  refine ⟨?_, ?_, ?_, ?_, ?_, ?_⟩
  · rw [World.cell?_setCell_other _ _ _ _ (ne 5 0 (by omega)), World.cell?_setCell_other _ _ _ _ (ne 4 0 (by omega)), World.cell?_setCell_other _ _ _ _ (ne 3 0 (by omega)), World.cell?_setCell_other _ _ _ _ (ne 2 0 (by omega)), World.cell?_setCell_other _ _ _ _ (ne 1 0 (by omega))]; exact World.cell?_setCell_same _ _ _ h0
  · rw [World.cell?_setCell_other _ _ _ _ (ne 5 1 (by omega)), World.cell?_setCell_other _ _ _ _ (ne 4 1 (by omega)), World.cell?_setCell_other _ _ _ _ (ne 3 1 (by omega)), World.cell?_setCell_other _ _ _ _ (ne 2 1 (by omega))]; exact World.cell?_setCell_same _ _ _ ((World.cell?_setCell_other _ _ _ _ (ne 0 1 (by omega))).trans h1)
  · rw [World.cell?_setCell_other _ _ _ _ (ne 5 2 (by omega)), World.cell?_setCell_other _ _ _ _ (ne 4 2 (by omega)), World.cell?_setCell_other _ _ _ _ (ne 3 2 (by omega))]; exact World.cell?_setCell_same _ _ _ (((World.cell?_setCell_other _ _ _ _ (ne 1 2 (by omega))).trans (World.cell?_setCell_other _ _ _ _ (ne 0 2 (by omega)))).trans h2)
  · rw [World.cell?_setCell_other _ _ _ _ (ne 5 3 (by omega)), World.cell?_setCell_other _ _ _ _ (ne 4 3 (by omega))]
    refine World.cell?_setCell_same _ _ _ (u := .int .u32 n0) ?_
    rw [World.cell?_setCell_other _ _ _ _ (ne 2 3 (by omega)), World.cell?_setCell_other _ _ _ _ (ne 1 3 (by omega)), World.cell?_setCell_other _ _ _ _ (ne 0 3 (by omega))]; exact h3
  · rw [World.cell?_setCell_other _ _ _ _ (ne 5 4 (by omega))]
    refine World.cell?_setCell_same _ _ _ (u := .int .i64 f0) ?_
    rw [World.cell?_setCell_other _ _ _ _ (ne 3 4 (by omega)), World.cell?_setCell_other _ _ _ _ (ne 2 4 (by omega)), World.cell?_setCell_other _ _ _ _ (ne 1 4 (by omega)), World.cell?_setCell_other _ _ _ _ (ne 0 4 (by omega))]; exact h4
  · refine World.cell?_setCell_same _ _ _ (u := v0) ?_
    rw [World.cell?_setCell_other _ _ _ _ (ne 4 5 (by omega)), World.cell?_setCell_other _ _ _ _ (ne 3 5 (by omega)), World.cell?_setCell_other _ _ _ _ (ne 2 5 (by omega)), World.cell?_setCell_other _ _ _ _ (ne 1 5 (by omega)), World.cell?_setCell_other _ _ _ _ (ne 0 5 (by omega))]; exact h5
theorem box_five {w2 : World} {g : Nat} {k : Int} {c s n : Nat} {f : Int} {v : Value} (h : Box w2 g k c s n f v) (v' : Value) : Box (w2.setCell ⟨g, 5, none⟩ v') g k c s n f v' := by
  obtain ⟨h0, h1, h2, h3, h4, h5⟩ := h
  have ne : ∀ i j : Nat, i ≠ j → (⟨g, i, none⟩ : Addr) ≠ ⟨g, j, none⟩ := fun i j hij e => hij (congrArg Addr.off e)
  exact ⟨(World.cell?_setCell_other _ _ _ _ (ne 5 0 (by omega))).trans h0, (World.cell?_setCell_other _ _ _ _ (ne 5 1 (by omega))).trans h1, (World.cell?_setCell_other _ _ _ _ (ne 5 2 (by omega))).trans h2, (World.cell?_setCell_other _ _ _ _ (ne 5 3 (by omega))).trans h3, (World.cell?_setCell_other _ _ _ _ (ne 5 4 (by omega))).trans h4, World.cell?_setCell_same _ _ _ h5⟩
theorem Box.below {wa wx : World} {g : Nat} {k : Int} {c s n : Nat} {f : Int} {v : Value} (h : Box wa g k c s n f v) (hg : g < wa.heap.size) (hb : Below wa.heap.size wa wx) : Box wx g k c s n f v := by
  have h' : ∀ i, wx.cell? ⟨g, i, none⟩ = wa.cell? ⟨g, i, none⟩ := fun i => hb.cell (p := ⟨g, i, none⟩) hg
  exact ⟨(h' 0).trans h.c0, (h' 1).trans h.c1, (h' 2).trans h.c2, (h' 3).trans h.c3, (h' 4).trans h.c4, (h' 5).trans h.c5⟩
set_option maxRecDepth 100000 in
set_option maxHeartbeats 2000000 in
theorem refDec_law (b off len cap : Nat) (bs : Nat → Nat) (w : World) (hr : Row8 w (some ⟨b, off, none⟩) len cap bs) (h1 : 19 ≤ len) (h2 : len ≤ 27) (hv : vld bs len) (E : Int) (hE : LW (bs 0) (w4v bs 1) (w4v bs 5) (w4v bs 9) (bs 13) ((len - 19 : Nat) : Int) (bs 14) = E) :
    Calls Tryz.prog 30 #[.slice (some ⟨b, off, none⟩) len cap] w fun e w' =>
      (E ≠ 0 → e = .returned (.tuple #[.agg #[.int .i64 0, .int .u32 0, .int .u32 0, .int .u32 0, .int .i64 0, .slice none 0 0], .int .i64 E]) ∧ Below w.heap.size w w') ∧
      (E = 0 → ∃ a' c', e = .returned (.tuple #[.agg #[.int .i64 (bs 0 : Nat), .int .u32 (w4v bs 1 : Nat), .int .u32 (w4v bs 5 : Nat), .int .u32 (w4v bs 9 : Nat), .int .i64 (bs 13 : Nat), .slice a' (len - 19) c'], .int .i64 0]) ∧
        Hid (w'.ownsRow w.heap.size 5 1 (.slice a' (len - 19) c') (len - 19) (CB (fun i => bs (15 + i)) (len - 19)) ∧ Below w.heap.size w w')) := by
  obtain ⟨i0, hi, hz0, hz1, hz2⟩ := info_parts info_u8
  have hcap := hr.le
  have hbl : b < w.heap.size := by
    obtain ⟨b', off', e, hb', _⟩ := hr.plain (by omega)
    cases e
    exact hb'
  have hA : Below w.heap.size w (w.alloc (.cells #[.int .i64 0, .int .u32 0, .int .u32 0, .int .u32 0, .int .i64 0, .slice none 0 0] 67)) := (Below.refl _ _).alloc (Nat.le_refl _) _
  have hAs : w.heap.size < (w.alloc (.cells #[.int .i64 0, .int .u32 0, .int .u32 0, .int .u32 0, .int .i64 0, .slice none 0 0] 67)).heap.size := by simp
  have hY := box_zero w
  have hYf := fun i wx hb => unit_frozen w #[.int .i64 0, .int .u32 0, .int .u32 0, .int .u32 0, .int .i64 0, .slice none 0 0] i wx hb
  have hrA := hr.below hA
  have hV := refValid_row _ len cap bs (w.alloc (.cells #[.int .i64 0, .int .u32 0, .int .u32 0, .int .u32 0, .int .i64 0, .slice none 0 0] 67)) hrA (by omega)
  have hd : decide (4 ≤ len ∧ PM.R PM.g 32 (PM.V (PM.fb bs) (8 * len)) = 0) = true := decide_eq_true ⟨by omega, hv⟩
  rw [hd] at hV
  clear hd
  have q : decide ((len : Int) < 19) = false := by simp; omega
  have q2 : decide ((27 : Int) < (len : Int)) = false := by simp; omega
  have h14 : (bs 14) < 256 := hr.byte 14 (by omega)
  have hw14 : IntKind.i64.wrap (bs 14 : Int) = (bs 14 : Int) := by rw [IntKind.wrap_i64]; omega
  have i14 : (14 : Int) < (len : Int) := by omega
  clear hv hr
  obtain ⟨n, hn⟩ : ∃ n, n = len - 19 := ⟨_, rfl⟩
  rw [← hn] at hE ⊢
  have HNN : Hid (n = len - 19) := hn
  clear hn
  go_enter Tryz.func30, Tryz.ntmps30
  go_wp2_with fail
  generalize w.alloc (.cells #[.int .i64 0, .int .u32 0, .int .u32 0, .int .u32 0, .int .i64 0, .slice none 0 0] 67) = wa at *
  refine hV.mono ?_
  rintro e w1 ⟨rfl, hb1⟩
  clear hV
  have hs1 := hb1.size
  have hne : ¬ b = w1.heap.size := by omega
  have hr1 := hrA.below hb1
  have hR : ∀ wx, Below w1.heap.size w1 wx → Row8 wx (some ⟨b, off, none⟩) len cap bs := fun wx hb => hr1.below hb
  have hW1 := fun wx hb => refWordOf_row b off len cap 1 4 (cap - 1) bs wx (hR wx hb) (by omega) (by omega)
  have hW5 := fun wx hb => refWordOf_row b off len cap 5 4 (cap - 5) bs wx (hR wx hb) (by omega) (by omega)
  have hW9 := fun wx hb => refWordOf_row b off len cap 9 4 (cap - 9) bs wx (hR wx hb) (by omega) (by omega)
  have hc : ∀ wx, Below w1.heap.size w1 wx → wx.cell? ⟨b, off, none⟩ = some (.int .u8 (bs 0 : Nat)) ∧ wx.cell? ⟨b, off + 13, none⟩ = some (.int .u8 (bs 13 : Nat)) := fun wx hb => by
    have s := (hR wx hb).src _ rfl
    have t0 := s 0 (by omega); have t1 := s 13 (by omega)
    rw [Go.WideShapes.add_plain] at t0 t1
    exact ⟨t0, t1⟩
  have hZ : ∀ m wx, Below ((w1.drewN m).alloc (.cells #[.int .i64 0, .int .u32 0, .int .u32 0, .int .u32 0, .int .i64 0, .slice none 0 0] 67)).heap.size ((w1.drewN m).alloc (.cells #[.int .i64 0, .int .u32 0, .int .u32 0, .int .u32 0, .int .i64 0, .slice none 0 0] 67)) wx → Box wx w1.heap.size 0 0 0 0 0 (.slice none 0 0) := fun m wx hb => box_zero (w1.drewN m) wx hb
  have hZf : ∀ m i wx, Below ((w1.drewN m).alloc (.cells #[.int .i64 0, .int .u32 0, .int .u32 0, .int .u32 0, .int .i64 0, .slice none 0 0] 67)).heap.size ((w1.drewN m).alloc (.cells #[.int .i64 0, .int .u32 0, .int .u32 0, .int .u32 0, .int .i64 0, .slice none 0 0] 67)) wx → wx.frozen? ⟨w1.heap.size, i, none⟩ = false := fun m i wx hb => unit_frozen (w1.drewN m) _ i wx hb
  have hZ0 : Box (w1.drew.alloc (.cells #[.int .i64 0, .int .u32 0, .int .u32 0, .int .u32 0, .int .i64 0, .slice none 0 0] 67)) w1.heap.size 0 0 0 0 0 (.slice none 0 0) := hZ 1 _ (Below.refl _ _)
  have hZ0f : ∀ i, (w1.drew.alloc (.cells #[.int .i64 0, .int .u32 0, .int .u32 0, .int .u32 0, .int .i64 0, .slice none 0 0] 67)).frozen? ⟨w1.heap.size, i, none⟩ = false := fun i => hZf 1 i _ (Below.refl _ _)
  have z0 := fun m => (hZ m _ (Below.refl _ _)).c0
  have z1 := fun m => (hZ m _ (Below.refl _ _)).c1
  have z2 := fun m => (hZ m _ (Below.refl _ _)).c2
  have z3 := fun m => (hZ m _ (Below.refl _ _)).c3
  have z4 := fun m => (hZ m _ (Below.refl _ _)).c4
  have z5 := fun m => (hZ m _ (Below.refl _ _)).c5
  have zf := fun m i => hZf m i _ (Below.refl _ _)
  obtain ⟨y0, y1, y2, y3, y4, y5⟩ := hZ0
  obtain ⟨k0, k13⟩ := hc w1 (Below.refl _ _)
  have hw0 : IntKind.i64.wrap (bs 0 : Int) = (bs 0 : Int) := by have := hr1.byte 0 (by omega); rw [IntKind.wrap_i64]; omega
  have hw13 : IntKind.i64.wrap (bs 13 : Int) = (bs 13 : Int) := by have := hr1.byte 13 (by omega); rw [IntKind.wrap_i64]; omega
  have n1 : ¬ cap = 1 := by omega
  have n5 : ¬ cap = 5 := by omega
  have n9 : ¬ cap = 9 := by omega
  have n15 : ¬ cap = 15 := by omega
  have l0 : (0 : Int) < (len : Int) := by omega
  have j0 : 0 < len := by omega
  have l13 : (13 : Int) < (len : Int) := by omega
  have c5 : (5 : Int) ≤ (cap : Int) := by omega
  have c9 : (9 : Int) ≤ (cap : Int) := by omega
  have c13 : (13 : Int) ≤ (cap : Int) := by omega
  go_upto_region 7 with fail
  go_cut [4] (fun v wx => v = .pointer (some ⟨w1.heap.size, 0, none⟩) ∧ Hid (Box wx w1.heap.size (bs 0 : Nat) (w4v bs 1) (w4v bs 5) (w4v bs 9) (bs 13 : Nat) (.slice none 0 0) ∧ Below w1.heap.size w1 wx ∧ w1.heap.size < wx.heap.size ∧ ∀ i, wx.frozen? ⟨w1.heap.size, i, none⟩ = false))
  case first =>
    go_region_held3 (fun w' => w'.cell? ⟨b, off, none⟩ = some (.int .u8 (bs 0 : Int)) ∧ w'.cell? ⟨b, off + 13, none⟩ = some (.int .u8 (bs 13 : Int))) (first | (with_reducible refine ⟨six_cell ?_ hne _ _ _ _ _ _, six_cell ?_ hne _ _ _ _ _ _⟩ <;> first | exact (hc _ (by repeat (first | with_reducible assumption | with_reducible refine below_drewN ?_ _ | with_reducible refine Below.drew ?_ | with_reducible refine below_allocR ?_ _ | with_reducible exact Below.refl _ _))).1 | exact (hc _ (by repeat (first | with_reducible assumption | with_reducible refine below_drewN ?_ _ | with_reducible refine Below.drew ?_ | with_reducible refine below_allocR ?_ _ | with_reducible exact Below.refl _ _))).2) | exact hc _ (by repeat (first | with_reducible assumption | with_reducible refine below_drewN ?_ _ | with_reducible refine Below.drew ?_ | with_reducible refine below_allocR ?_ _ | with_reducible exact Below.refl _ _))) (first
    | (refine step_draw rfl (.tmp 23) 76 rfl #[.slice (some ⟨b, off + 1, none⟩) 4 (cap - 1)] _ (hW1 _ (by repeat (first | with_reducible assumption | with_reducible refine below_drewN ?_ _ | with_reducible refine Below.drew ?_ | with_reducible refine below_allocR ?_ _ | with_reducible exact Below.refl _ _))) (by kernel_rfl) ?_; intro m)
    | (refine step_draw rfl (.tmp 26) 76 rfl #[.slice (some ⟨b, off + 5, none⟩) 4 (cap - 5)] _ (hW5 _ (by repeat (first | with_reducible assumption | with_reducible refine below_drewN ?_ _ | with_reducible refine Below.drew ?_ | with_reducible refine below_allocR ?_ _ | with_reducible exact Below.refl _ _))) (by kernel_rfl) ?_; intro m)
    | (refine step_draw rfl (.tmp 29) 76 rfl #[.slice (some ⟨b, off + 9, none⟩) 4 (cap - 9)] _ (hW9 _ (by repeat (first | with_reducible assumption | with_reducible refine below_drewN ?_ _ | with_reducible refine Below.drew ?_ | with_reducible refine below_allocR ?_ _ | with_reducible exact Below.refl _ _))) (by kernel_rfl) ?_; intro m))
    all_goals
      go_wp2_with fail
      go_meet
      refine ⟨rfl, six_box (k0 := 0) (c0 := 0) (s0 := 0) (n0 := 0) (f0 := 0) (v0 := .slice none 0 0) ?_ _ _ _ _ _ _, six_below ?_ (Nat.le_refl _) _ _ _ _ _ _, ?_, ?_⟩
      · first | exact hZ _ _ (below_drewN (Below.refl _ _) _) | exact hZ _ _ (Below.refl _ _) | exact hZ 1 _ (below_drewN (Below.refl _ _) _) | exact hZ 1 _ (Below.refl _ _)
      · repeat (first | with_reducible assumption | with_reducible refine below_drewN ?_ _ | with_reducible refine Below.drew ?_ | with_reducible refine below_allocR ?_ _ | with_reducible exact Below.refl _ _)
      · simp
      · intro i
        simp only [World.frozen?_setCell]
        first | exact hZf _ i _ (below_drewN (Below.refl _ _) _) | exact hZf _ i _ (Below.refl _ _) | exact hZf 1 i _ (below_drewN (Below.refl _ _) _) | exact hZf 1 i _ (Below.refl _ _)
  case rest =>
    obtain ⟨rfl, H2⟩ := hcut
    obtain ⟨w2, rfl⟩ : ∃ x, x = wc := ⟨_, rfl⟩
    obtain ⟨X2, hb2, hs2, hf2⟩ := H2.out
    have hr2 := hR w2 hb2
    have hb2w : Below wa.heap.size wa w2 := below_all hb1 hs1 hb2
    have h2s := hb2w.size
    clear H2 hb2 hW1 hW5 hW9 hc hZ hZf hZ0f z0 z1 z2 z3 z4 z5 zf y0 y1 y2 y3 y4 y5 k0 k13 hw0 hw13 n1 n5 n9 l0 j0 l13 c5 c9 c13 hR hr1 hrA
    generalize w1.heap.size = g at *
    clear hb1
    obtain ⟨qq, hq⟩ : ∃ q, q = len - 4 := ⟨_, rfl⟩
    have hn : n = len - 19 := HNN.out
    have hqI : (len : Int) - 4 = (qq : Int) := by omega
    have iq : (15 : Int) ≤ (qq : Int) := by omega
    have iq2 : (qq : Int) ≤ (cap : Int) := by omega
    have iq0 : (0 : Int) ≤ (qq : Int) := by omega
    have hqn : qq - 15 = n := by omega
    have R2 := ((hr2.from_ 15 (by omega)).upto n (by omega))
    have hn27 : n ≤ 27 := by omega
    have HL : Hid (_) := And.intro hq hn
    have O0 : (w2.alloc (.cells #[] 5)).ownsRow w2.heap.size 5 1 (.slice (some ⟨w2.heap.size, 0, none⟩) 0 0) 0 (CB bs 0) := World.ownsRow_made w2 #[] 0 (Nat.le_refl _) (Nat.zero_le _) rfl
    have hC : Below w2.heap.size w2 (w2.alloc (.cells #[] 5)) := (Below.refl _ _).alloc (Nat.le_refl _) _
    have hsC := hC.size
    have R0 := R2.below hC
    have hby : ∀ i, i < n → bs (15 + i) < 256 := R2.byte
    clear hq hn
    go_wp2_with (at_builtin; refine wpList_append_row8 rfl (.tmp 36) (.tmp 41) 22 rfl w2.heap.size 5 i0 (.int .u8 0) Tryz.underlying22 hi hz0 hz1 hz2 rfl _ 0 _ rfl O0 _ n _ _ rfl R0 (by unfold maxLen; omega) (by omega) hsC ?_)
    intro v3 w3 own3 G3
    have hb3 : Below w2.heap.size w2 w3 := hC.grown G3 hsC (fun j hj => (O0.lt j hj).1)
    rw [show CB bs 0 = [] from rfl, List.nil_append] at own3
    obtain ⟨a3, c3, rfl, R3⟩ := own_row8 own3 hby
    have X3 := X2.below hs2 hb3
    have hf3 : ∀ i, w3.frozen? ⟨g, i, none⟩ = false := fun i => by rw [hb3.frozen (p := ⟨g, i, none⟩) hs2]; exact hf2 i
    have k14 := (hr2.below hb3).src _ rfl 14 (by omega)
    rw [Go.WideShapes.add_plain] at k14
    have hb3a : Below wa.heap.size wa w3 := below_all hb2w h2s hb3
    have hb4 : Below wa.heap.size wa (w3.setCell ⟨g, 5, none⟩ (.slice a3 n c3)) := hb3a.setCell (p := ⟨g, 5, none⟩) hs1 _
    have X4 := box_five X3 (.slice a3 n c3)
    have own4 := ownsRow_setCell_below own3 (a := ⟨g, 5, none⟩) hs2 (.slice a3 n c3)
    have hr4 := (hr2.below hb3)
    have k14' : (w3.setCell ⟨g, 5, none⟩ (.slice a3 n c3)).cell? ⟨b, off + 14, none⟩ = some (.int .u8 (bs 14 : Nat)) := by rw [World.cell?_setCell_far _ _ _ _ (fun e => hne e.symm)]; exact k14
    have hL := refLawful_any (bs 0 : Nat) (w4v bs 1) (w4v bs 5) (w4v bs 9) (bs 13 : Nat) a3 n c3 (w3.setCell ⟨g, 5, none⟩ (.slice a3 n c3))
    rw [LW_said] at hE
    generalize LW (bs 0 : Nat) (w4v bs 1 : Nat) (w4v bs 5 : Nat) (w4v bs 9 : Nat) (bs 13 : Nat) (n : Nat) (n : Nat) = E0 at *
    have hs3 : w2.heap.size ≤ w3.heap.size := hb3.size
    have hg4 : g < (w3.setCell ⟨g, 5, none⟩ (.slice a3 n c3)).heap.size := by simp; omega
    have hb4s : b < (w3.setCell ⟨g, 5, none⟩ (.slice a3 n c3)).heap.size := by simp; omega
    have hs4 := hb4.size
    obtain ⟨x0, x1, x2, x3, x4, x5⟩ := X3
    clear own3 R3 G3 O0 hC hsC R0 R2 hr2 hr4 k14 hb3 hb3a X2 hf2
    go_wp2_with fail
    generalize w3.setCell ⟨g, 5, none⟩ (.slice a3 n c3) = w4 at *
    refine hL.mono ?_
    rintro e w5 ⟨rfl, hb5'⟩
    have hb5 := below_all hb4 hs4 hb5'
    have hs5 := hb5.size
    have X5 := X4.below hg4 hb5'
    have k14 : w5.cell? ⟨b, off + 14, none⟩ = some (.int .u8 (bs 14 : Nat)) := (hb5'.cell (p := ⟨b, off + 14, none⟩) hb4s).trans k14'
    have own5 := own_below own4 hb5'
    have hg5 : g < w5.heap.size := Nat.lt_of_lt_of_le hg4 hb5'.size
    obtain ⟨z0, z1, z2, z3, z4, z5⟩ := X5
    clear hL x0 x1 x2 x3 x4 x5 hf3 k14' own4 hb4 hb5' hg4 hb4s hs4
    go_upto_region 10 with fail
    obtain ⟨D, hD⟩ : ∃ D, D = decide (E0 ≠ 43 ∧ E0 ≠ 44 ∧ (bs 14 : Int) ≠ (n : Int)) := ⟨_, rfl⟩
    go_cut [61] (fun v wx => v = .bool D ∧ Hid (Below w5.heap.size w5 wx))
    case first =>
      by_cases e43 : E0 = 43
      · have hD' : D = false := by rw [hD]; simp [e43]
        subst e43
        go_quiet (fail)
        go_wp2_with fail
        go_meet
        exact ⟨by rw [hD'], by first | exact (Below.refl _ _).drew | exact below_drewN (Below.refl _ _) _ | exact Below.refl _ _⟩
      · have q43 : (E0 == 43) = false := by simpa using e43
        have r43 : (E0 != 43) = true := by simpa using e43
        by_cases e44 : E0 = 44
        · have hD' : D = false := by rw [hD]; simp [e44]
          subst e44
          go_quiet (fail)
          go_wp2_with fail
          go_meet
          exact ⟨by rw [hD'], by first | exact (Below.refl _ _).drew | exact below_drewN (Below.refl _ _) _ | exact Below.refl _ _⟩
        · have q44 : (E0 == 44) = false := by simpa using e44
          have r44 : (E0 != 44) = true := by simpa using e44
          by_cases e14 : (bs 14 : Int) = (n : Int)
          · have q14 : ((bs 14 : Int) == (n : Int)) = true := by simpa using e14
            have r14 : ((bs 14 : Int) != (n : Int)) = false := by simpa using e14
            have hD' : D = false := by rw [hD]; simp [e14]
            clear e14
            go_quiet (fail)
            go_wp2_with fail
            go_meet
            exact ⟨by rw [hD'], by first | exact (Below.refl _ _).drew | exact below_drewN (Below.refl _ _) _ | exact Below.refl _ _⟩
          · have q14 : ((bs 14 : Int) == (n : Int)) = false := by simpa using e14
            have r14 : ((bs 14 : Int) != (n : Int)) = true := by simpa using e14
            have hD' : D = true := by rw [hD]; simp [e43, e44, e14]
            clear e14
            go_quiet (fail)
            go_wp2_with fail
            go_meet
            exact ⟨by rw [hD'], by first | exact (Below.refl _ _).drew | exact below_drewN (Below.refl _ _) _ | exact Below.refl _ _⟩
    case rest =>
      obtain ⟨rfl, H6⟩ := hcut
      obtain ⟨w6, rfl⟩ : ∃ x, x = wc := ⟨_, rfl⟩
      have hb6 := below_all hb5 hs5 H6.out
      have yf := fun i => hYf i w6 hb6
      obtain ⟨y0, y1, y2, y3, y4, y5⟩ := hY w6 hb6
      have X5 : Box w5 g (bs 0 : Nat) (w4v bs 1) (w4v bs 5) (w4v bs 9) (bs 13 : Nat) (.slice a3 n c3) := ⟨z0, z1, z2, z3, z4, z5⟩
      obtain ⟨u0, u1, u2, u3, u4, u5⟩ := X5.below hg5 H6.out
      have own6 := own_below own5 H6.out
      have hgw : ¬ w.heap.size = g := by omega
      have hgw' : ¬ g = w.heap.size := by omega
      have HH : Hid (_) := And.intro hA (And.intro hAs (And.intro hb6 (And.intro own6 h2s)))
      clear hY hYf z0 z1 z2 z3 z4 z5 X5 own5 own6 hb5 hb6 hs5 H6 k14 hg5 hA hAs
      by_cases hc : E0 ≠ 43 ∧ E0 ≠ 44 ∧ (bs 14 : Int) ≠ (n : Int)
      · have hDt : D = true := by rw [hD]; simp [hc]
        rw [if_pos hc] at hE
        subst hDt
        subst hE
        clear hD hc
        go_wp2_with fail
        refine bodyPost_ret (v := .tuple #[.agg #[.int .i64 0, .int .u32 0, .int .u32 0, .int .u32 0, .int .i64 0, .slice none 0 0], .int .i64 45]) (by simp [results, Tryz.results30, go_sem, y0, y1, y2, y3, y4, y5]) rfl ⟨fun _ => ⟨rfl, ?_⟩, fun h => absurd h (by decide)⟩
        exact six_below (HH.out.1.trans (HH.out.2.2.1.mono (Nat.le_of_lt HH.out.2.1))) (Nat.le_refl _) _ _ _ _ _ _
      · have hDf : D = false := by rw [hD]; simpa using hc
        rw [if_neg hc] at hE
        subst hDf
        subst hE
        clear hD hc
        by_cases hE0 : E0 = 0
        · subst hE0
          go_wp2_with fail
          refine bodyPost_ret (v := .tuple #[.agg #[.int .i64 (bs 0 : Nat), .int .u32 (w4v bs 1 : Nat), .int .u32 (w4v bs 5 : Nat), .int .u32 (w4v bs 9 : Nat), .int .i64 (bs 13 : Nat), .slice a3 n c3], .int .i64 0]) (by simp [results, Tryz.results30, go_sem, y0, y1, y2, y3, y4, y5]) rfl ⟨a3, c3, rfl, ?_, ?_⟩
          · exact own_base (six_own HH.out.2.2.2.1 (Nat.lt_of_lt_of_le HH.out.2.1 HH.out.2.2.2.2) _ _ _ _ _ _) (Nat.le_trans (Nat.le_of_lt HH.out.2.1) HH.out.2.2.2.2)
          · exact six_below (HH.out.1.trans (HH.out.2.2.1.mono (Nat.le_of_lt HH.out.2.1))) (Nat.le_refl _) _ _ _ _ _ _
        · have qE : (E0 == 0) = false := by simpa using hE0
          go_wp2_with fail
          refine bodyPost_ret (v := .tuple #[.agg #[.int .i64 0, .int .u32 0, .int .u32 0, .int .u32 0, .int .i64 0, .slice none 0 0], .int .i64 E0]) (by simp [results, Tryz.results30, go_sem, y0, y1, y2, y3, y4, y5]) rfl ⟨fun _ => ⟨rfl, ?_⟩, fun h => absurd h hE0⟩
          exact six_below (HH.out.1.trans (HH.out.2.2.1.mono (Nat.le_of_lt HH.out.2.1))) (Nat.le_refl _) _ _ _ _ _ _
theorem refDec_ok (a : Option Addr) (len cap : Nat) (bs : Nat → Nat) (w : World) (hr : Row8 w a len cap bs) (h : DE bs len = 0) :
    Calls Tryz.prog 30 #[.slice a len cap] w fun e w' => ∃ a' c', e = .returned (.tuple #[.agg #[.int .i64 (bs 0 : Nat), .int .u32 (w4v bs 1 : Nat), .int .u32 (w4v bs 5 : Nat), .int .u32 (w4v bs 9 : Nat), .int .i64 (bs 13 : Nat), .slice a' (len - 19) c'], .int .i64 0]) ∧
        Hid (w'.ownsRow w.heap.size 5 1 (.slice a' (len - 19) c') (len - 19) (CB (fun i => bs (15 + i)) (len - 19)) ∧ Below w.heap.size w w') := by
  obtain ⟨h1, h2, h3, h4⟩ := DE_zero h
  obtain ⟨b, off, rfl, _, _⟩ := hr.plain (by omega)
  exact (refDec_law b off len cap bs w hr h1 h2 h3 0 h4).mono fun e w' h => h.2 rfl
theorem refDec_no (a : Option Addr) (len cap : Nat) (bs : Nat → Nat) (w : World) (hr : Row8 w a len cap bs) (h : DE bs len ≠ 0) :
    Calls Tryz.prog 30 #[.slice a len cap] w fun e w' => e = .returned (.tuple #[.agg #[.int .i64 0, .int .u32 0, .int .u32 0, .int .u32 0, .int .i64 0, .slice none 0 0], .int .i64 (DE bs len)]) ∧ Below w.heap.size w w' := by
  by_cases h1 : len < 19
  · rw [show DE bs len = 40 from if_pos h1]
    exact refDec_short a len cap w h1
  · by_cases h2 : 27 < len
    · rw [show DE bs len = 41 by unfold DE; rw [if_neg h1, if_pos h2]]
      exact refDec_big a len cap w h2
    · by_cases h3 : vld bs len
      · have hD : DE bs len = LW (bs 0) (w4v bs 1) (w4v bs 5) (w4v bs 9) (bs 13) ((len - 19 : Nat) : Int) (bs 14) := by unfold DE; rw [if_neg h1, if_neg h2, if_neg (fun e => e h3)]
        obtain ⟨b, off, rfl, _, _⟩ := hr.plain (by omega)
        exact (refDec_law b off len cap bs w hr (by omega) (by omega) h3 _ hD.symm).mono fun e w' q => q.1 h
      · rw [DE_check (by omega) (by omega) h3]
        exact refDec_check a len cap bs w hr (by omega) (by omega) h3
end Go.Proofs.YtndjepeolamedaaGreat
