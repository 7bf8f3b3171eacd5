/- Part 17 of the texts on which the proof rests: contracts of Go functions. -/
import Derived.Laws.Strings
import Derived.Test.YthlgahkoignnkaaPkG13
import Derived.Test.YthlgahkoignnkaaPkG15
namespace Go.Proofs.Ythlgahkoignnkaa
open Go.RowKit Go.Maps Go.Sort
set_option maxRecDepth 100000
structure Ex where
  e : En
  has : Bool
  inn : Nat
structure Ex.Ok (x : Ex) : Prop where
  a : x.has = true → x.inn = x.e.ls
  b : x.has = false → x.e.v = ByteArray.mk #[]
structure ExW (w : World) (g p : Nat) (x : Ex) : Prop where
  c0 : w.cell? ⟨g, p, none⟩ = some (.int .i64 x.e.w)
  c1 : w.cell? ⟨g, p + 1, none⟩ = some (.bool x.e.took)
  c2 : w.cell? ⟨g, p + 2, none⟩ = some (.int .u32 (x.e.ls : Nat))
  c3 : w.cell? ⟨g, p + 3, none⟩ = some (.int .u32 (x.e.ln : Nat))
  c4 : w.cell? ⟨g, p + 4, none⟩ = some (.bool x.has)
  c5 : w.cell? ⟨g, p + 5, none⟩ = some (.string x.e.v)
  c6 : w.cell? ⟨g, p + 6, none⟩ = some (.int .u32 (x.inn : Nat))
  c7 : w.cell? ⟨g, p + 7, none⟩ = some (.int .i64 x.e.tk)
  c8 : w.cell? ⟨g, p + 8, none⟩ = some (.int .i64 x.e.lat)
  c9 : w.cell? ⟨g, p + 9, none⟩ = some (.bool x.e.fr)
  c10 : w.cell? ⟨g, p + 10, none⟩ = some (.bool x.e.ak)
  fz : ∀ k, w.frozen? ⟨g, k, none⟩ = false
theorem ExW.lt {w : World} {g p : Nat} {x : Ex} (h : ExW w g p x) : g < w.heap.size := World.block_lt_of_cell? w _ h.c0
theorem ExW.keep {w w' : World} {g p p' q' : Nat} {x : Ex} (h : ExW w g p x) (t : Tn w w' g p' q') (hp : p + 11 ≤ p' ∨ q' ≤ p) : ExW w' g p x :=
  ⟨(t.oth _ (by omega)).trans h.c0, (t.oth _ (by omega)).trans h.c1, (t.oth _ (by omega)).trans h.c2, (t.oth _ (by omega)).trans h.c3, (t.oth _ (by omega)).trans h.c4, (t.oth _ (by omega)).trans h.c5, (t.oth _ (by omega)).trans h.c6, (t.oth _ (by omega)).trans h.c7, (t.oth _ (by omega)).trans h.c8, (t.oth _ (by omega)).trans h.c9, (t.oth _ (by omega)).trans h.c10, fun k => (t.fz k).trans (h.fz k)⟩
theorem ExW.below {w w' : World} {g p : Nat} {x : Ex} (h : ExW w g p x) (b : Below w.heap.size w w') : ExW w' g p x := h.keep (Tn.of_below 0 0 b h.lt) (.inr (by omega))
theorem ExW.drewN {w : World} {g p : Nat} {x : Ex} (h : ExW w g p x) (n : Nat) : ExW (w.drewN n) g p x := h.keep (Tn.drewN w g 0 0 n) (.inr (by omega))
theorem ExW.s1 {w : World} {g p : Nat} {x : Ex} (h : ExW w g p x) (y : Bool) : ExW (w.setCell ⟨g, p + 1, none⟩ (.bool y)) g p { x with e := { x.e with took := y } } := ⟨(World.cell?_setCell_other _ _ _ _ (by simp)).trans h.c0, World.cell?_setCell_same _ _ _ h.c1, (World.cell?_setCell_other _ _ _ _ (by simp)).trans h.c2, (World.cell?_setCell_other _ _ _ _ (by simp)).trans h.c3, (World.cell?_setCell_other _ _ _ _ (by simp)).trans h.c4, (World.cell?_setCell_other _ _ _ _ (by simp)).trans h.c5, (World.cell?_setCell_other _ _ _ _ (by simp)).trans h.c6, (World.cell?_setCell_other _ _ _ _ (by simp)).trans h.c7, (World.cell?_setCell_other _ _ _ _ (by simp)).trans h.c8, (World.cell?_setCell_other _ _ _ _ (by simp)).trans h.c9, (World.cell?_setCell_other _ _ _ _ (by simp)).trans h.c10, fun k => (World.frozen?_setCell _ _ _ _).trans (h.fz k)⟩
theorem ExW.s2 {w : World} {g p : Nat} {x : Ex} (h : ExW w g p x) (y : Nat) : ExW (w.setCell ⟨g, p + 2, none⟩ (.int .u32 (y : Nat))) g p { x with e := { x.e with ls := y } } := ⟨(World.cell?_setCell_other _ _ _ _ (by simp)).trans h.c0, (World.cell?_setCell_other _ _ _ _ (by simp)).trans h.c1, World.cell?_setCell_same _ _ _ h.c2, (World.cell?_setCell_other _ _ _ _ (by simp)).trans h.c3, (World.cell?_setCell_other _ _ _ _ (by simp)).trans h.c4, (World.cell?_setCell_other _ _ _ _ (by simp)).trans h.c5, (World.cell?_setCell_other _ _ _ _ (by simp)).trans h.c6, (World.cell?_setCell_other _ _ _ _ (by simp)).trans h.c7, (World.cell?_setCell_other _ _ _ _ (by simp)).trans h.c8, (World.cell?_setCell_other _ _ _ _ (by simp)).trans h.c9, (World.cell?_setCell_other _ _ _ _ (by simp)).trans h.c10, fun k => (World.frozen?_setCell _ _ _ _).trans (h.fz k)⟩
theorem ExW.s3 {w : World} {g p : Nat} {x : Ex} (h : ExW w g p x) (y : Nat) : ExW (w.setCell ⟨g, p + 3, none⟩ (.int .u32 (y : Nat))) g p { x with e := { x.e with ln := y } } := ⟨(World.cell?_setCell_other _ _ _ _ (by simp)).trans h.c0, (World.cell?_setCell_other _ _ _ _ (by simp)).trans h.c1, (World.cell?_setCell_other _ _ _ _ (by simp)).trans h.c2, World.cell?_setCell_same _ _ _ h.c3, (World.cell?_setCell_other _ _ _ _ (by simp)).trans h.c4, (World.cell?_setCell_other _ _ _ _ (by simp)).trans h.c5, (World.cell?_setCell_other _ _ _ _ (by simp)).trans h.c6, (World.cell?_setCell_other _ _ _ _ (by simp)).trans h.c7, (World.cell?_setCell_other _ _ _ _ (by simp)).trans h.c8, (World.cell?_setCell_other _ _ _ _ (by simp)).trans h.c9, (World.cell?_setCell_other _ _ _ _ (by simp)).trans h.c10, fun k => (World.frozen?_setCell _ _ _ _).trans (h.fz k)⟩
theorem ExW.s4 {w : World} {g p : Nat} {x : Ex} (h : ExW w g p x) (y : Bool) : ExW (w.setCell ⟨g, p + 4, none⟩ (.bool y)) g p { x with has := y } := ⟨(World.cell?_setCell_other _ _ _ _ (by simp)).trans h.c0, (World.cell?_setCell_other _ _ _ _ (by simp)).trans h.c1, (World.cell?_setCell_other _ _ _ _ (by simp)).trans h.c2, (World.cell?_setCell_other _ _ _ _ (by simp)).trans h.c3, World.cell?_setCell_same _ _ _ h.c4, (World.cell?_setCell_other _ _ _ _ (by simp)).trans h.c5, (World.cell?_setCell_other _ _ _ _ (by simp)).trans h.c6, (World.cell?_setCell_other _ _ _ _ (by simp)).trans h.c7, (World.cell?_setCell_other _ _ _ _ (by simp)).trans h.c8, (World.cell?_setCell_other _ _ _ _ (by simp)).trans h.c9, (World.cell?_setCell_other _ _ _ _ (by simp)).trans h.c10, fun k => (World.frozen?_setCell _ _ _ _).trans (h.fz k)⟩
theorem ExW.s5 {w : World} {g p : Nat} {x : Ex} (h : ExW w g p x) (y : ByteArray) : ExW (w.setCell ⟨g, p + 5, none⟩ (.string y)) g p { x with e := { x.e with v := y } } := ⟨(World.cell?_setCell_other _ _ _ _ (by simp)).trans h.c0, (World.cell?_setCell_other _ _ _ _ (by simp)).trans h.c1, (World.cell?_setCell_other _ _ _ _ (by simp)).trans h.c2, (World.cell?_setCell_other _ _ _ _ (by simp)).trans h.c3, (World.cell?_setCell_other _ _ _ _ (by simp)).trans h.c4, World.cell?_setCell_same _ _ _ h.c5, (World.cell?_setCell_other _ _ _ _ (by simp)).trans h.c6, (World.cell?_setCell_other _ _ _ _ (by simp)).trans h.c7, (World.cell?_setCell_other _ _ _ _ (by simp)).trans h.c8, (World.cell?_setCell_other _ _ _ _ (by simp)).trans h.c9, (World.cell?_setCell_other _ _ _ _ (by simp)).trans h.c10, fun k => (World.frozen?_setCell _ _ _ _).trans (h.fz k)⟩
theorem ExW.s6 {w : World} {g p : Nat} {x : Ex} (h : ExW w g p x) (y : Nat) : ExW (w.setCell ⟨g, p + 6, none⟩ (.int .u32 (y : Nat))) g p { x with inn := y } := ⟨(World.cell?_setCell_other _ _ _ _ (by simp)).trans h.c0, (World.cell?_setCell_other _ _ _ _ (by simp)).trans h.c1, (World.cell?_setCell_other _ _ _ _ (by simp)).trans h.c2, (World.cell?_setCell_other _ _ _ _ (by simp)).trans h.c3, (World.cell?_setCell_other _ _ _ _ (by simp)).trans h.c4, (World.cell?_setCell_other _ _ _ _ (by simp)).trans h.c5, World.cell?_setCell_same _ _ _ h.c6, (World.cell?_setCell_other _ _ _ _ (by simp)).trans h.c7, (World.cell?_setCell_other _ _ _ _ (by simp)).trans h.c8, (World.cell?_setCell_other _ _ _ _ (by simp)).trans h.c9, (World.cell?_setCell_other _ _ _ _ (by simp)).trans h.c10, fun k => (World.frozen?_setCell _ _ _ _).trans (h.fz k)⟩
theorem ExW.s7 {w : World} {g p : Nat} {x : Ex} (h : ExW w g p x) (y : Int) : ExW (w.setCell ⟨g, p + 7, none⟩ (.int .i64 y)) g p { x with e := { x.e with tk := y } } := ⟨(World.cell?_setCell_other _ _ _ _ (by simp)).trans h.c0, (World.cell?_setCell_other _ _ _ _ (by simp)).trans h.c1, (World.cell?_setCell_other _ _ _ _ (by simp)).trans h.c2, (World.cell?_setCell_other _ _ _ _ (by simp)).trans h.c3, (World.cell?_setCell_other _ _ _ _ (by simp)).trans h.c4, (World.cell?_setCell_other _ _ _ _ (by simp)).trans h.c5, (World.cell?_setCell_other _ _ _ _ (by simp)).trans h.c6, World.cell?_setCell_same _ _ _ h.c7, (World.cell?_setCell_other _ _ _ _ (by simp)).trans h.c8, (World.cell?_setCell_other _ _ _ _ (by simp)).trans h.c9, (World.cell?_setCell_other _ _ _ _ (by simp)).trans h.c10, fun k => (World.frozen?_setCell _ _ _ _).trans (h.fz k)⟩
theorem ExW.s8 {w : World} {g p : Nat} {x : Ex} (h : ExW w g p x) (y : Int) : ExW (w.setCell ⟨g, p + 8, none⟩ (.int .i64 y)) g p { x with e := { x.e with lat := y } } := ⟨(World.cell?_setCell_other _ _ _ _ (by simp)).trans h.c0, (World.cell?_setCell_other _ _ _ _ (by simp)).trans h.c1, (World.cell?_setCell_other _ _ _ _ (by simp)).trans h.c2, (World.cell?_setCell_other _ _ _ _ (by simp)).trans h.c3, (World.cell?_setCell_other _ _ _ _ (by simp)).trans h.c4, (World.cell?_setCell_other _ _ _ _ (by simp)).trans h.c5, (World.cell?_setCell_other _ _ _ _ (by simp)).trans h.c6, (World.cell?_setCell_other _ _ _ _ (by simp)).trans h.c7, World.cell?_setCell_same _ _ _ h.c8, (World.cell?_setCell_other _ _ _ _ (by simp)).trans h.c9, (World.cell?_setCell_other _ _ _ _ (by simp)).trans h.c10, fun k => (World.frozen?_setCell _ _ _ _).trans (h.fz k)⟩
theorem ExW.s9 {w : World} {g p : Nat} {x : Ex} (h : ExW w g p x) (y : Bool) : ExW (w.setCell ⟨g, p + 9, none⟩ (.bool y)) g p { x with e := { x.e with fr := y } } := ⟨(World.cell?_setCell_other _ _ _ _ (by simp)).trans h.c0, (World.cell?_setCell_other _ _ _ _ (by simp)).trans h.c1, (World.cell?_setCell_other _ _ _ _ (by simp)).trans h.c2, (World.cell?_setCell_other _ _ _ _ (by simp)).trans h.c3, (World.cell?_setCell_other _ _ _ _ (by simp)).trans h.c4, (World.cell?_setCell_other _ _ _ _ (by simp)).trans h.c5, (World.cell?_setCell_other _ _ _ _ (by simp)).trans h.c6, (World.cell?_setCell_other _ _ _ _ (by simp)).trans h.c7, (World.cell?_setCell_other _ _ _ _ (by simp)).trans h.c8, World.cell?_setCell_same _ _ _ h.c9, (World.cell?_setCell_other _ _ _ _ (by simp)).trans h.c10, fun k => (World.frozen?_setCell _ _ _ _).trans (h.fz k)⟩
theorem ExW.s10 {w : World} {g p : Nat} {x : Ex} (h : ExW w g p x) (y : Bool) : ExW (w.setCell ⟨g, p + 10, none⟩ (.bool y)) g p { x with e := { x.e with ak := y } } := ⟨(World.cell?_setCell_other _ _ _ _ (by simp)).trans h.c0, (World.cell?_setCell_other _ _ _ _ (by simp)).trans h.c1, (World.cell?_setCell_other _ _ _ _ (by simp)).trans h.c2, (World.cell?_setCell_other _ _ _ _ (by simp)).trans h.c3, (World.cell?_setCell_other _ _ _ _ (by simp)).trans h.c4, (World.cell?_setCell_other _ _ _ _ (by simp)).trans h.c5, (World.cell?_setCell_other _ _ _ _ (by simp)).trans h.c6, (World.cell?_setCell_other _ _ _ _ (by simp)).trans h.c7, (World.cell?_setCell_other _ _ _ _ (by simp)).trans h.c8, (World.cell?_setCell_other _ _ _ _ (by simp)).trans h.c9, World.cell?_setCell_same _ _ _ h.c10, fun k => (World.frozen?_setCell _ _ _ _).trans (h.fz k)⟩
def mtF (g f : Fa) : Prop := g.c = f.c ∧ g.s ≠ f.s ∧ g.ss = f.ss ∧ g.nn = f.nn ∧ g.x = f.x
theorem toList_iff {x y : ByteArray} : x.toList = y.toList ↔ x = y := by
  constructor
  · intro e
    rw [ByteArray.toList_eq, ByteArray.toList_eq] at e
    cases x; cases y
    simp at e
    rw [e]
  · intro e
    rw [e]
open Classical in
set_option maxHeartbeats 4000000 in
theorem rsent (p : Nat) (sa : Option Addr) (m sc : Nat) (F : Nat → Fa) (f : Fa) (a : Option Addr) (cap : Nat) (w : World) (h2 : w.cell? ⟨p, 2, none⟩ = some (.slice sa m sc)) (hF : FRow w sa m F) (hm : m ≤ 1000000) (hr : Row8 w a f.n cap f.b) :
    Calls Try.prog 35 #[.pointer (some ⟨p, 0, none⟩), .agg (faC f a cap)] w fun r w' => r = .returned (.bool (decide (∃ i, i < m ∧ mtF (F i) f))) ∧ Below w.heap.size w w' := by
  have b1 : Below w.heap.size w (w.alloc (.cells (faC f a cap) 43)) := belowG (Below.refl _ _) _
  have e0 := heap_alloc_new w (.cells (faC f a cap) 43)
  obtain ⟨w1, hw1⟩ : ∃ x : World, w.alloc (.cells (faC f a cap) 43) = x := ⟨_, rfl⟩
  obtain ⟨B, hB⟩ : ∃ x, w.heap.size = x := ⟨_, rfl⟩
  rw [hw1] at b1 e0
  rw [hB] at e0
  go_enter Try.func35, Try.ntmps35
  unfold faC at hw1 e0 ⊢
  go_wp2_with fail
  clear hw1
  have hx8 : ∀ wx, Below w1.heap.size w1 wx → wx.cell? ⟨B, 0, none⟩ = some (.int .i64 f.k) ∧ wx.cell? ⟨B, 1, none⟩ = some (.int .i64 f.c) ∧ wx.cell? ⟨B, 2, none⟩ = some (.int .i64 f.s) ∧ wx.cell? ⟨B, 3, none⟩ = some (.int .u32 (f.ss : Nat)) ∧ wx.cell? ⟨B, 4, none⟩ = some (.int .u32 (f.nn : Nat)) ∧ wx.cell? ⟨B, 7, none⟩ = some (.slice a f.n cap) := fun wx bx => ⟨cell_belowJ (cell_of_row w1 _ 0 _ _ _ e0) bx, cell_belowJ (cell_of_row w1 _ 1 _ _ _ e0) bx, cell_belowJ (cell_of_row w1 _ 2 _ _ _ e0) bx, cell_belowJ (cell_of_row w1 _ 3 _ _ _ e0) bx, cell_belowJ (cell_of_row w1 _ 4 _ _ _ e0) bx, cell_belowJ (cell_of_row w1 _ 7 _ _ _ e0) bx⟩
  have HB : Hid (Below w.heap.size w w1) := b1
  have HF : Hid (_) := And.intro h2 (And.intro hF hr)
  clear e0 b1 h2 hF hr hB
  go_loopw [5, 6, 7, 8, 9, 10, 11, 12, 13, 14, 15, 16, 17, 18, 19, 20, 21, 22, 23, 24, 25, 26, 27, 28, 29, 30, 31, 32, 33, 34, 35, 36, 37, 38, 39, 40, 41, 42, 43, 44, 45, 46, 47, 48, 49, 50, 51, 52, 53, 54, 55, 56, 57] (fun c _ _ _ _ _ _ _ _ _ _ _ _ _ _ _ _ _ _ _ _ _ _ _ _ _ _ _ _ _ _ _ _ _ _ _ _ _ _ _ _ _ _ _ _ _ _ _ _ _ _ _ _ wr => ∃ i : Nat, i ≤ m ∧ c = .int .i64 ((i : Nat) : Int) ∧ Hid (Below w1.heap.size w1 wr ∧ ∀ j, j < i → ¬ mtF (F j) f)) (fun c _ _ _ _ _ _ _ _ _ _ _ _ _ _ _ _ _ _ _ _ _ _ _ _ _ _ _ _ _ _ _ _ _ _ _ _ _ _ _ _ _ _ _ _ _ _ _ _ _ _ _ _ _ => m - natG c)
  case atStart => exact ⟨0, by omega, rfl, Below.refl _ _, fun j hj => by omega⟩
  case round =>
    obtain ⟨i, hi, rfl, HI⟩ := hrel
    have bw := HB.out.trans (HI.out.1.mono HB.out.size)
    have p2 := cell_belowJ HF.out.1 bw
    by_cases hlt : i < m
    · have hlt' : ((i : Nat) : Int) < ((m : Nat) : Int) := by omega
      obtain ⟨q, off, da, dc, rfl, d0, d1, d2, d3, d4, d5, d6, d7, R⟩ := HF.out.2.1 i hlt
      have t0 := cell_belowJ d0 bw
      have t1 := cell_belowJ d1 bw
      have t2 := cell_belowJ d2 bw
      have t3 := cell_belowJ d3 bw
      have t4 := cell_belowJ d4 bw
      have t5 := cell_belowJ d5 bw
      have t6 := cell_belowJ d6 bw
      have t7 := cell_belowJ d7 bw
      have hbz : Below wr.heap.size wr (wr.alloc (.cells #[.int .i64 (F i).k, .int .i64 (F i).c, .int .i64 (F i).s, .int .u32 ((F i).ss : Nat), .int .u32 ((F i).nn : Nat), .bool (F i).on, .int .i64 (F i).cd, .slice da (F i).n dc] 43)) := belowG (Below.refl _ _) _
      have bz := HI.out.1.trans (hbz.mono HI.out.1.size)
      obtain ⟨y0, y1, y2, y3, y4, y7⟩ := hx8 _ bz
      have cv1 := conv_any da (F i).n dc (F i).b _ ((R.below bw).below hbz)
      have cv2 := conv_any a f.n cap f.b _ ((HF.out.2.2.below bw).below hbz)
      rw [show BA (F i).b (F i).n = (F i).x from rfl] at cv1
      rw [show BA f.b f.n = f.x from rfl] at cv2
      obtain ⟨X, hX⟩ : ∃ X, (F i).x = X := ⟨_, rfl⟩
      obtain ⟨Y, hY⟩ : ∃ Y, f.x = Y := ⟨_, rfl⟩
      rw [hX] at cv1
      rw [hY] at cv2
      have HXY : Hid ((F i).x = X ∧ f.x = Y) := ⟨hX, hY⟩
      have hw1i : IntKind.i64.wrap (((i : Nat) : Int) + 1) = ((i + 1 : Nat) : Int) := by rw [IntKind.wrap_i64]; omega
      have HZ : Hid (Below w1.heap.size w1 _) := bz
      have nw : ∀ z : Prop, (¬ mtF (F i) f) → Hid (∀ j, j < i + 1 → ¬ mtF (F j) f) := fun _ hz j hj => by
        by_cases e : j = i
        · subst e; exact hz
        · exact HI.out.2 j (by omega)
      have HBW : Hid (Below w.heap.size w w1) := HB.out
      clear d0 d1 d2 d3 d4 d5 d6 d7 R bw HF hx8 HB hbz bz hX hY
      by_cases hc : (F i).c = f.c
      · skip
        have gc : ((F i).c == f.c) = true := by simpa using hc
        have gcn : ((F i).c != f.c) = false := by simpa using hc
        have hc0 : Hid (_) := hc
        clear hc
        by_cases hc : (F i).s = f.s
        · skip
          have gs : ((F i).s == f.s) = true := by simpa using hc
          have gsn : ((F i).s != f.s) = false := by simpa using hc
          have hN := nw True (fun h => absurd hc h.2.1)
          clear nw hc
          go_wp2_with fail
          go_roundw
          case rel => exact ⟨i + 1, by omega, by first | rfl | go_num, HZ.out, hN.out⟩
          case measure => simp [natG] <;> omega
        · skip
          have gs : ((F i).s == f.s) = false := by simpa using hc
          have gsn : ((F i).s != f.s) = true := by simpa using hc
          have hc1 : Hid (_) := hc
          clear hc
          by_cases hc : (F i).ss = f.ss
          · skip
            have gss : ((F i).ss == f.ss) = true := by simpa using hc
            have gssn : ((F i).ss != f.ss) = false := by simpa using hc
            have gssi : ((((F i).ss : Nat) : Int) == ((f.ss : Nat) : Int)) = true := by simp only [beq_iff_eq]; omega
            have hc2 : Hid (_) := hc
            clear hc
            by_cases hc : (F i).nn = f.nn
            · skip
              have gnn : ((F i).nn == f.nn) = true := by simpa using hc
              have gnnn : ((F i).nn != f.nn) = false := by simpa using hc
              have gnni : ((((F i).nn : Nat) : Int) == ((f.nn : Nat) : Int)) = true := by simp only [beq_iff_eq]; omega
              have hc3 : Hid (_) := hc
              clear hc
              by_cases hc : X = Y
              · skip
                have gx : (X.toList == Y.toList) = true := by simp only [beq_iff_eq]; rw [toList_iff]; exact hc
                have hc4 : Hid (_) := hc
                clear hc
                go_wp2_with fail
                go_ret
                have e : (∃ i, i < m ∧ mtF (F i) f) := ⟨i, hlt, hc0.out, hc1.out, hc2.out, hc3.out, by rw [HXY.out.1, HXY.out.2]; exact hc4.out⟩
                refine ⟨?_, (HBW.out.trans (HZ.out.mono HBW.out.size))⟩
                rw [decide_eq_true e]
                rfl
              · skip
                have gx : (X.toList == Y.toList) = false := by simp only [beq_eq_false_iff_ne, ne_eq]; rw [toList_iff]; exact hc
                have hN := nw True (fun h => hc (by rw [← HXY.out.1, ← HXY.out.2]; exact h.2.2.2.2))
                clear nw hc
                go_wp2_with fail
                go_roundw
                case rel => exact ⟨i + 1, by omega, by first | rfl | go_num, HZ.out, hN.out⟩
                case measure => simp [natG] <;> omega
            · skip
              have gnn : ((F i).nn == f.nn) = false := by simpa using hc
              have gnnn : ((F i).nn != f.nn) = true := by simpa using hc
              have gnni : ((((F i).nn : Nat) : Int) == ((f.nn : Nat) : Int)) = false := by simp only [beq_eq_false_iff_ne, ne_eq]; omega
              have hN := nw True (fun h => absurd h.2.2.2.1 hc)
              clear nw hc
              go_wp2_with fail
              go_roundw
              case rel => exact ⟨i + 1, by omega, by first | rfl | go_num, HZ.out, hN.out⟩
              case measure => simp [natG] <;> omega
          · skip
            have gss : ((F i).ss == f.ss) = false := by simpa using hc
            have gssn : ((F i).ss != f.ss) = true := by simpa using hc
            have gssi : ((((F i).ss : Nat) : Int) == ((f.ss : Nat) : Int)) = false := by simp only [beq_eq_false_iff_ne, ne_eq]; omega
            have hN := nw True (fun h => absurd h.2.2.1 hc)
            clear nw hc
            go_wp2_with fail
            go_roundw
            case rel => exact ⟨i + 1, by omega, by first | rfl | go_num, HZ.out, hN.out⟩
            case measure => simp [natG] <;> omega
      · skip
        have gc : ((F i).c == f.c) = false := by simpa using hc
        have gcn : ((F i).c != f.c) = true := by simpa using hc
        have hN := nw True (fun h => absurd h.1 hc)
        clear nw hc
        go_wp2_with fail
        go_roundw
        case rel => exact ⟨i + 1, by omega, by first | rfl | go_num, HZ.out, hN.out⟩
        case measure => simp [natG] <;> omega
    · obtain rfl : i = m := by omega
      have hlt' : ¬ ((i : Nat) : Int) < ((i : Nat) : Int) := by omega
      clear HF hx8
      go_wp2_with fail
      go_ret
      have e : ¬ (∃ j, j < i ∧ mtF (F j) f) := by
        rintro ⟨j, hj, hm⟩
        exact HI.out.2 j hj hm
      refine ⟨?_, bw⟩
      rw [decide_eq_false e]
      rfl
end Go.Proofs.Ythlgahkoignnkaa
