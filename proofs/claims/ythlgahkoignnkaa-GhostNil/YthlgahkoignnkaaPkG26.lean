/- Part 27 of the texts on which the proof rests: contracts of Go functions. -/
import Derived.Test.YthlgahkoignnkaaPkG11
import Derived.Test.YthlgahkoignnkaaPkG17
namespace Go.Proofs.Ythlgahkoignnkaa
open Go.RowKit Go.Maps Go.Sort
set_option maxRecDepth 100000
theorem ExW.s0 {w : World} {g p : Nat} {x : Ex} (h : ExW w g p x) : ExW (w.setCell ⟨g, p, none⟩ (.int .i64 x.e.w)) g p x := ⟨World.cell?_setCell_same _ _ _ h.c0, (World.cell?_setCell_other _ _ _ _ (by simp)).trans h.c1, (World.cell?_setCell_other _ _ _ _ (by simp)).trans h.c2, (World.cell?_setCell_other _ _ _ _ (by simp)).trans h.c3, (World.cell?_setCell_other _ _ _ _ (by simp)).trans h.c4, (World.cell?_setCell_other _ _ _ _ (by simp)).trans h.c5, (World.cell?_setCell_other _ _ _ _ (by simp)).trans h.c6, (World.cell?_setCell_other _ _ _ _ (by simp)).trans h.c7, (World.cell?_setCell_other _ _ _ _ (by simp)).trans h.c8, (World.cell?_setCell_other _ _ _ _ (by simp)).trans h.c9, (World.cell?_setCell_other _ _ _ _ (by simp)).trans h.c10, fun k => (World.frozen?_setCell _ _ _ _).trans (h.fz k)⟩
theorem ExW.oth {w : World} {b g i p : Nat} {x : Ex} {v : Value} (h : ExW w b p x) (hne : ¬ g = b) : ExW (w.setCell ⟨g, i, none⟩ v) b p x := ⟨(World.cell?_setCell_other _ _ _ _ (by intro e; have := congrArg Addr.block e; simp at this; omega)).trans h.c0, (World.cell?_setCell_other _ _ _ _ (by intro e; have := congrArg Addr.block e; simp at this; omega)).trans h.c1, (World.cell?_setCell_other _ _ _ _ (by intro e; have := congrArg Addr.block e; simp at this; omega)).trans h.c2, (World.cell?_setCell_other _ _ _ _ (by intro e; have := congrArg Addr.block e; simp at this; omega)).trans h.c3, (World.cell?_setCell_other _ _ _ _ (by intro e; have := congrArg Addr.block e; simp at this; omega)).trans h.c4, (World.cell?_setCell_other _ _ _ _ (by intro e; have := congrArg Addr.block e; simp at this; omega)).trans h.c5, (World.cell?_setCell_other _ _ _ _ (by intro e; have := congrArg Addr.block e; simp at this; omega)).trans h.c6, (World.cell?_setCell_other _ _ _ _ (by intro e; have := congrArg Addr.block e; simp at this; omega)).trans h.c7, (World.cell?_setCell_other _ _ _ _ (by intro e; have := congrArg Addr.block e; simp at this; omega)).trans h.c8, (World.cell?_setCell_other _ _ _ _ (by intro e; have := congrArg Addr.block e; simp at this; omega)).trans h.c9, (World.cell?_setCell_other _ _ _ _ (by intro e; have := congrArg Addr.block e; simp at this; omega)).trans h.c10, fun k => (World.frozen?_setCell _ _ _ _).trans (h.fz k)⟩
theorem tn_oth {w w' : World} {b g i p q : Nat} {v : Value} (h : Tn w w' b p q) (hne : ¬ g = b) (hg : w.heap.size ≤ g) : Tn w (w'.setCell ⟨g, i, none⟩ v) b p q := by
  have o : Off [g] w' (w'.setCell ⟨g, i, none⟩ v) := Off.setCell _ _ _ _
  refine ⟨⟨o.os.trans h.off.os, o.tape.trans h.off.tape, o.output.trans h.off.output, Nat.le_trans h.off.size o.size, fun k hk hb => (o.block k (Nat.lt_of_lt_of_le hk h.off.size) (by simp; omega)).trans (h.off.block k hk hb)⟩, fun k hk => ?_, fun k => (World.frozen?_setCell _ _ _ _).trans (h.fz k)⟩
  rw [World.cell?_setCell_other _ _ _ _ (by intro e; have := congrArg Addr.block e; simp at this; omega)]
  exact h.oth k hk
theorem hid7 {P : Prop} (h : P) : Hid P := h
theorem there_new (w : World) (cs : Array Value) (t : TypeId) (n : Nat) (hn : cs.size = n) : (w.alloc (.cells cs t)).there w.heap.size 0 n := fun j hj => by
  have hk := heap_alloc_new w (.cells cs t)
  rw [Nat.zero_add]
  refine ⟨?_, frozen_of_row _ _ j _ _ hk⟩
  rw [cell_of_row _ _ j _ _ _ hk, Array.getElem?_eq_getElem (by omega)]
  rfl
theorem below_setCells {g o : Nat} {w w' : World} {vs : List Value} (b : Below w.heap.size w w') (hg : w.heap.size ≤ g) : Below w.heap.size w (w'.setCells g o vs) := ⟨(World.os_setCells _ _ _ _).trans b.os, (setCells_tape _ _ _ _).1.trans b.tape, (World.output_setCells _ _ _ _).trans b.output, Nat.le_trans b.size (setCells_tape _ _ _ _).2, fun k hk => (World.heap_setCells_other _ _ _ _ (by have := b.size; omega) (by omega)).trans (b.block k hk)⟩
theorem end_new (w : World) (t : Int) : ((w.alloc (.cells #[.int .i64 0, .bool false, .int .u32 0, .int .u32 0, .bool false, .string (ByteArray.mk #[]), .int .u32 0, .int .i64 0, .int .i64 0, .bool false, .bool false] 72)).setCells w.heap.size 0 [.int .i64 t, .bool false, .int .u32 0, .int .u32 0, .bool false, .string (ByteArray.mk #[]), .int .u32 0, .int .i64 0, .int .i64 0, .bool false, .bool false]).heap[w.heap.size]? = some (.cells #[.int .i64 t, .bool false, .int .u32 0, .int .u32 0, .bool false, .string (ByteArray.mk #[]), .int .u32 0, .int .i64 0, .int .i64 0, .bool false, .bool false] 72 (0, 0)) := by
  have h0 := heap_alloc_new w (.cells #[.int .i64 0, .bool false, .int .u32 0, .int .u32 0, .bool false, .string (ByteArray.mk #[]), .int .u32 0, .int .i64 0, .int .i64 0, .bool false, .bool false] 72)
  have h1 : ((w.alloc (.cells #[.int .i64 0, .bool false, .int .u32 0, .int .u32 0, .bool false, .string (ByteArray.mk #[]), .int .u32 0, .int .i64 0, .int .i64 0, .bool false, .bool false] 72)).setCell ⟨w.heap.size, 0, none⟩ (.int .i64 t)).heap[w.heap.size]? = some (.cells #[.int .i64 t, .bool false, .int .u32 0, .int .u32 0, .bool false, .string (ByteArray.mk #[]), .int .u32 0, .int .i64 0, .int .i64 0, .bool false, .bool false] 72 (0, 0)) := heap_setCell_same _ _ 0 _ _ _ h0
  have h2 : (((w.alloc (.cells #[.int .i64 0, .bool false, .int .u32 0, .int .u32 0, .bool false, .string (ByteArray.mk #[]), .int .u32 0, .int .i64 0, .int .i64 0, .bool false, .bool false] 72)).setCell ⟨w.heap.size, 0, none⟩ (.int .i64 t)).setCell ⟨w.heap.size, 1, none⟩ (.bool false)).heap[w.heap.size]? = some (.cells #[.int .i64 t, .bool false, .int .u32 0, .int .u32 0, .bool false, .string (ByteArray.mk #[]), .int .u32 0, .int .i64 0, .int .i64 0, .bool false, .bool false] 72 (0, 0)) := heap_setCell_same _ _ 1 _ _ _ h1
  have h3 : ((((w.alloc (.cells #[.int .i64 0, .bool false, .int .u32 0, .int .u32 0, .bool false, .string (ByteArray.mk #[]), .int .u32 0, .int .i64 0, .int .i64 0, .bool false, .bool false] 72)).setCell ⟨w.heap.size, 0, none⟩ (.int .i64 t)).setCell ⟨w.heap.size, 1, none⟩ (.bool false)).setCell ⟨w.heap.size, 2, none⟩ (.int .u32 0)).heap[w.heap.size]? = some (.cells #[.int .i64 t, .bool false, .int .u32 0, .int .u32 0, .bool false, .string (ByteArray.mk #[]), .int .u32 0, .int .i64 0, .int .i64 0, .bool false, .bool false] 72 (0, 0)) := heap_setCell_same _ _ 2 _ _ _ h2
  have h4 : (((((w.alloc (.cells #[.int .i64 0, .bool false, .int .u32 0, .int .u32 0, .bool false, .string (ByteArray.mk #[]), .int .u32 0, .int .i64 0, .int .i64 0, .bool false, .bool false] 72)).setCell ⟨w.heap.size, 0, none⟩ (.int .i64 t)).setCell ⟨w.heap.size, 1, none⟩ (.bool false)).setCell ⟨w.heap.size, 2, none⟩ (.int .u32 0)).setCell ⟨w.heap.size, 3, none⟩ (.int .u32 0)).heap[w.heap.size]? = some (.cells #[.int .i64 t, .bool false, .int .u32 0, .int .u32 0, .bool false, .string (ByteArray.mk #[]), .int .u32 0, .int .i64 0, .int .i64 0, .bool false, .bool false] 72 (0, 0)) := heap_setCell_same _ _ 3 _ _ _ h3
  have h5 : ((((((w.alloc (.cells #[.int .i64 0, .bool false, .int .u32 0, .int .u32 0, .bool false, .string (ByteArray.mk #[]), .int .u32 0, .int .i64 0, .int .i64 0, .bool false, .bool false] 72)).setCell ⟨w.heap.size, 0, none⟩ (.int .i64 t)).setCell ⟨w.heap.size, 1, none⟩ (.bool false)).setCell ⟨w.heap.size, 2, none⟩ (.int .u32 0)).setCell ⟨w.heap.size, 3, none⟩ (.int .u32 0)).setCell ⟨w.heap.size, 4, none⟩ (.bool false)).heap[w.heap.size]? = some (.cells #[.int .i64 t, .bool false, .int .u32 0, .int .u32 0, .bool false, .string (ByteArray.mk #[]), .int .u32 0, .int .i64 0, .int .i64 0, .bool false, .bool false] 72 (0, 0)) := heap_setCell_same _ _ 4 _ _ _ h4
  have h6 : (((((((w.alloc (.cells #[.int .i64 0, .bool false, .int .u32 0, .int .u32 0, .bool false, .string (ByteArray.mk #[]), .int .u32 0, .int .i64 0, .int .i64 0, .bool false, .bool false] 72)).setCell ⟨w.heap.size, 0, none⟩ (.int .i64 t)).setCell ⟨w.heap.size, 1, none⟩ (.bool false)).setCell ⟨w.heap.size, 2, none⟩ (.int .u32 0)).setCell ⟨w.heap.size, 3, none⟩ (.int .u32 0)).setCell ⟨w.heap.size, 4, none⟩ (.bool false)).setCell ⟨w.heap.size, 5, none⟩ (.string (ByteArray.mk #[]))).heap[w.heap.size]? = some (.cells #[.int .i64 t, .bool false, .int .u32 0, .int .u32 0, .bool false, .string (ByteArray.mk #[]), .int .u32 0, .int .i64 0, .int .i64 0, .bool false, .bool false] 72 (0, 0)) := heap_setCell_same _ _ 5 _ _ _ h5
  have h7 : ((((((((w.alloc (.cells #[.int .i64 0, .bool false, .int .u32 0, .int .u32 0, .bool false, .string (ByteArray.mk #[]), .int .u32 0, .int .i64 0, .int .i64 0, .bool false, .bool false] 72)).setCell ⟨w.heap.size, 0, none⟩ (.int .i64 t)).setCell ⟨w.heap.size, 1, none⟩ (.bool false)).setCell ⟨w.heap.size, 2, none⟩ (.int .u32 0)).setCell ⟨w.heap.size, 3, none⟩ (.int .u32 0)).setCell ⟨w.heap.size, 4, none⟩ (.bool false)).setCell ⟨w.heap.size, 5, none⟩ (.string (ByteArray.mk #[]))).setCell ⟨w.heap.size, 6, none⟩ (.int .u32 0)).heap[w.heap.size]? = some (.cells #[.int .i64 t, .bool false, .int .u32 0, .int .u32 0, .bool false, .string (ByteArray.mk #[]), .int .u32 0, .int .i64 0, .int .i64 0, .bool false, .bool false] 72 (0, 0)) := heap_setCell_same _ _ 6 _ _ _ h6
  have h8 : (((((((((w.alloc (.cells #[.int .i64 0, .bool false, .int .u32 0, .int .u32 0, .bool false, .string (ByteArray.mk #[]), .int .u32 0, .int .i64 0, .int .i64 0, .bool false, .bool false] 72)).setCell ⟨w.heap.size, 0, none⟩ (.int .i64 t)).setCell ⟨w.heap.size, 1, none⟩ (.bool false)).setCell ⟨w.heap.size, 2, none⟩ (.int .u32 0)).setCell ⟨w.heap.size, 3, none⟩ (.int .u32 0)).setCell ⟨w.heap.size, 4, none⟩ (.bool false)).setCell ⟨w.heap.size, 5, none⟩ (.string (ByteArray.mk #[]))).setCell ⟨w.heap.size, 6, none⟩ (.int .u32 0)).setCell ⟨w.heap.size, 7, none⟩ (.int .i64 0)).heap[w.heap.size]? = some (.cells #[.int .i64 t, .bool false, .int .u32 0, .int .u32 0, .bool false, .string (ByteArray.mk #[]), .int .u32 0, .int .i64 0, .int .i64 0, .bool false, .bool false] 72 (0, 0)) := heap_setCell_same _ _ 7 _ _ _ h7
  have h9 : ((((((((((w.alloc (.cells #[.int .i64 0, .bool false, .int .u32 0, .int .u32 0, .bool false, .string (ByteArray.mk #[]), .int .u32 0, .int .i64 0, .int .i64 0, .bool false, .bool false] 72)).setCell ⟨w.heap.size, 0, none⟩ (.int .i64 t)).setCell ⟨w.heap.size, 1, none⟩ (.bool false)).setCell ⟨w.heap.size, 2, none⟩ (.int .u32 0)).setCell ⟨w.heap.size, 3, none⟩ (.int .u32 0)).setCell ⟨w.heap.size, 4, none⟩ (.bool false)).setCell ⟨w.heap.size, 5, none⟩ (.string (ByteArray.mk #[]))).setCell ⟨w.heap.size, 6, none⟩ (.int .u32 0)).setCell ⟨w.heap.size, 7, none⟩ (.int .i64 0)).setCell ⟨w.heap.size, 8, none⟩ (.int .i64 0)).heap[w.heap.size]? = some (.cells #[.int .i64 t, .bool false, .int .u32 0, .int .u32 0, .bool false, .string (ByteArray.mk #[]), .int .u32 0, .int .i64 0, .int .i64 0, .bool false, .bool false] 72 (0, 0)) := heap_setCell_same _ _ 8 _ _ _ h8
  have h10 : (((((((((((w.alloc (.cells #[.int .i64 0, .bool false, .int .u32 0, .int .u32 0, .bool false, .string (ByteArray.mk #[]), .int .u32 0, .int .i64 0, .int .i64 0, .bool false, .bool false] 72)).setCell ⟨w.heap.size, 0, none⟩ (.int .i64 t)).setCell ⟨w.heap.size, 1, none⟩ (.bool false)).setCell ⟨w.heap.size, 2, none⟩ (.int .u32 0)).setCell ⟨w.heap.size, 3, none⟩ (.int .u32 0)).setCell ⟨w.heap.size, 4, none⟩ (.bool false)).setCell ⟨w.heap.size, 5, none⟩ (.string (ByteArray.mk #[]))).setCell ⟨w.heap.size, 6, none⟩ (.int .u32 0)).setCell ⟨w.heap.size, 7, none⟩ (.int .i64 0)).setCell ⟨w.heap.size, 8, none⟩ (.int .i64 0)).setCell ⟨w.heap.size, 9, none⟩ (.bool false)).heap[w.heap.size]? = some (.cells #[.int .i64 t, .bool false, .int .u32 0, .int .u32 0, .bool false, .string (ByteArray.mk #[]), .int .u32 0, .int .i64 0, .int .i64 0, .bool false, .bool false] 72 (0, 0)) := heap_setCell_same _ _ 9 _ _ _ h9
  have h11 : ((((((((((((w.alloc (.cells #[.int .i64 0, .bool false, .int .u32 0, .int .u32 0, .bool false, .string (ByteArray.mk #[]), .int .u32 0, .int .i64 0, .int .i64 0, .bool false, .bool false] 72)).setCell ⟨w.heap.size, 0, none⟩ (.int .i64 t)).setCell ⟨w.heap.size, 1, none⟩ (.bool false)).setCell ⟨w.heap.size, 2, none⟩ (.int .u32 0)).setCell ⟨w.heap.size, 3, none⟩ (.int .u32 0)).setCell ⟨w.heap.size, 4, none⟩ (.bool false)).setCell ⟨w.heap.size, 5, none⟩ (.string (ByteArray.mk #[]))).setCell ⟨w.heap.size, 6, none⟩ (.int .u32 0)).setCell ⟨w.heap.size, 7, none⟩ (.int .i64 0)).setCell ⟨w.heap.size, 8, none⟩ (.int .i64 0)).setCell ⟨w.heap.size, 9, none⟩ (.bool false)).setCell ⟨w.heap.size, 10, none⟩ (.bool false)).heap[w.heap.size]? = some (.cells #[.int .i64 t, .bool false, .int .u32 0, .int .u32 0, .bool false, .string (ByteArray.mk #[]), .int .u32 0, .int .i64 0, .int .i64 0, .bool false, .bool false] 72 (0, 0)) := heap_setCell_same _ _ 10 _ _ _ h10
  exact h11
set_option maxHeartbeats 2000000 in
theorem rule7_1 (p ge ec k i bi : Nat) (x : Ex) (fss fnn : Nat) (fon : Bool) (fcd : Int) (fn : Nat) (a : Option Addr) (cap : Nat) (w : World) (j0 : w.cell? ⟨p, 0, none⟩ = some (.slice (some ⟨ge, 0, none⟩) k ec)) (o0 : w.cell? ⟨ge, i, none⟩ = some (.slice (some ⟨bi, 0, none⟩) 2 2)) (hi : i < k) (h : ExW w bi 0 x) :
    Calls Try.prog 21 #[.pointer (some ⟨p, 0, none⟩), .agg #[.int .i64 7, .int .i64 ((i : Nat) : Int), .int .i64 1, .int .u32 (fss : Nat), .int .u32 (fnn : Nat), .bool fon, .int .i64 fcd, .slice a fn cap]] w fun r w' => r = .returned (.int .i64 0) ∧ Hid (Tn w w' bi 0 (0 + 11) ∧ ExW w' bi 0 ⟨x.e.rst 1, false, 0⟩) := by
  have b1 : Below w.heap.size w (w.alloc (.cells #[.int .i64 7, .int .i64 ((i : Nat) : Int), .int .i64 1, .int .u32 (fss : Nat), .int .u32 (fnn : Nat), .bool fon, .int .i64 fcd, .slice a fn cap] 43)) := belowG (Below.refl _ _) _
  have e0 := heap_alloc_new w (.cells #[.int .i64 7, .int .i64 ((i : Nat) : Int), .int .i64 1, .int .u32 (fss : Nat), .int .u32 (fnn : Nat), .bool fon, .int .i64 fcd, .slice a fn cap] 43)
  obtain ⟨w1, hw1⟩ : ∃ x : World, w.alloc (.cells #[.int .i64 7, .int .i64 ((i : Nat) : Int), .int .i64 1, .int .u32 (fss : Nat), .int .u32 (fnn : Nat), .bool fon, .int .i64 fcd, .slice a fn cap] 43) = x := ⟨_, rfl⟩
  obtain ⟨B, hB⟩ : ∃ x, w.heap.size = x := ⟨_, rfl⟩
  rw [hw1] at b1 e0
  rw [hB] at e0
  have T1 : Hid (Tn w w1 bi 0 (0 + 11)) := Tn.of_below 0 (0 + 11) b1 h.lt
  have HX : Hid (ExW w1 bi 0 x) := h.below b1
  have X1 := h.below b1
  have y0 := cell_belowJ j0 b1
  have y1 := cell_belowJ o0 b1
  have hi1 : ((i : Nat) : Int) < ((k : Nat) : Int) := by omega
  have hi2 : ¬ ((i : Nat) : Int) < 0 := by omega
  have hi3 : ¬ ((k : Nat) : Int) ≤ ((i : Nat) : Int) := by omega
  have hne : ¬ bi = B := by have := h.lt; omega
  have hw1s : Hid (w.heap.size ≤ w1.heap.size) := b1.size
  have hX1lt : Hid (bi < w1.heap.size) := X1.lt
  go_enter Try.func21, Try.ntmps21
  go_wp2_with fail
  clear hw1 hB b1 h j0 o0
  have z0 := cell_of_row w1 B 0 _ _ _ e0
  have z1 := cell_of_row w1 B 1 _ _ _ e0
  have z2 := cell_of_row w1 B 2 _ _ _ e0
  have z3 := cell_of_row w1 B 3 _ _ _ e0
  have z4 := cell_of_row w1 B 4 _ _ _ e0
  have z7 := cell_of_row w1 B 7 _ _ _ e0
  obtain ⟨x0, x1, x2, x3, x4, x5, x6, x7, x8, x9, x10, fz⟩ := X1
  go_quiet (fail)
  go_wp2_with fail
  go_quiet (fail)
  go_upto_region 30 with fail
  have hth : ∀ n, ((w1.drewN n).alloc (.cells #[.int .i64 0, .bool false, .int .u32 0, .int .u32 0, .bool false, .string (ByteArray.mk #[]), .int .u32 0, .int .i64 0, .int .i64 0, .bool false, .bool false] 72)).there w1.heap.size 0 11 := fun n => there_new (w1.drewN n) #[.int .i64 0, .bool false, .int .u32 0, .int .u32 0, .bool false, .string (ByteArray.mk #[]), .int .u32 0, .int .i64 0, .int .i64 0, .bool false, .bool false] 72 11 rfl
  go_cut [8] (fun x8 wx => ∃ g, x8 = .pointer (some ⟨g, 0, none⟩) ∧ Hid (Below w1.heap.size w1 wx ∧ w1.heap.size ≤ g ∧ wx.heap[g]? = some (.cells #[.int .i64 x.e.w, .bool false, .int .u32 0, .int .u32 0, .bool false, .string (ByteArray.mk #[]), .int .u32 0, .int .i64 0, .int .i64 0, .bool false, .bool false] 72 (0, 0))))
  case first =>
    iterate 16 go_step
    iterate 4 go_step
    refine wp_store_mid 72 (.tmp 8) (.tmp 231) rfl w1.heap.size 0 #[.int .i64 x.e.w, .bool false, .int .u32 0, .int .u32 0, .bool false, .string (ByteArray.mk #[]), .int .u32 0, .int .i64 0, .int .i64 0, .bool false, .bool false] (by rfl) (by rfl) (hth _) (by kernel_rfl) (all_oneCell_toArray (by intro u hu; simp at hu; rcases hu with rfl | rfl | rfl | rfl | rfl | rfl | rfl | rfl | rfl | rfl | rfl <;> rfl)) ?_
    go_wp2_with fail
    go_meet
    refine ⟨w1.heap.size, rfl, ?_, Nat.le_refl _, end_new _ x.e.w⟩
    exact below_setCells (belowG (belowN (Below.refl _ _) _) _) (Nat.le_refl _)
  case rest =>
    obtain ⟨g, rfl, H⟩ := hcut
    obtain ⟨wd, hwd⟩ : ∃ x, wc = x := ⟨_, rfl⟩
    rw [hwd] at H ⊢
    clear hwd wc hth
    have HX := hid7 (HX.out.below H.out.1)
    have T1 := hid7 (T1.out.trans (Tn.of_below 0 (0 + 11) H.out.1 (Nat.lt_of_lt_of_le (hX1lt.out) (Nat.le_refl _))))
    obtain ⟨x0, x1, x2, x3, x4, x5, x6, x7, x8, x9, x10, fz⟩ := HX.out
    have hth : wd.there bi 0 11 := fun j hj => by
      have : j = 0 ∨ j = 1 ∨ j = 2 ∨ j = 3 ∨ j = 4 ∨ j = 5 ∨ j = 6 ∨ j = 7 ∨ j = 8 ∨ j = 9 ∨ j = 10 := by omega
      refine ⟨?_, fz _⟩
      rcases this with rfl | rfl | rfl | rfl | rfl | rfl | rfl | rfl | rfl | rfl | rfl
      · rw [show wd.cell? ⟨bi, 0 + 0, none⟩ = _ from x0]; rfl
      · rw [show wd.cell? ⟨bi, 0 + 1, none⟩ = _ from x1]; rfl
      · rw [show wd.cell? ⟨bi, 0 + 2, none⟩ = _ from x2]; rfl
      · rw [show wd.cell? ⟨bi, 0 + 3, none⟩ = _ from x3]; rfl
      · rw [show wd.cell? ⟨bi, 0 + 4, none⟩ = _ from x4]; rfl
      · rw [show wd.cell? ⟨bi, 0 + 5, none⟩ = _ from x5]; rfl
      · rw [show wd.cell? ⟨bi, 0 + 6, none⟩ = _ from x6]; rfl
      · rw [show wd.cell? ⟨bi, 0 + 7, none⟩ = _ from x7]; rfl
      · rw [show wd.cell? ⟨bi, 0 + 8, none⟩ = _ from x8]; rfl
      · rw [show wd.cell? ⟨bi, 0 + 9, none⟩ = _ from x9]; rfl
      · rw [show wd.cell? ⟨bi, 0 + 10, none⟩ = _ from x10]; rfl
    have k0 := cell_of_row wd g 0 _ _ _ H.out.2.2
    have k1 := cell_of_row wd g 1 _ _ _ H.out.2.2
    have k2 := cell_of_row wd g 2 _ _ _ H.out.2.2
    have k3 := cell_of_row wd g 3 _ _ _ H.out.2.2
    have k4 := cell_of_row wd g 4 _ _ _ H.out.2.2
    have k5 := cell_of_row wd g 5 _ _ _ H.out.2.2
    have k6 := cell_of_row wd g 6 _ _ _ H.out.2.2
    have k7 := cell_of_row wd g 7 _ _ _ H.out.2.2
    have k8 := cell_of_row wd g 8 _ _ _ H.out.2.2
    have k9 := cell_of_row wd g 9 _ _ _ H.out.2.2
    have k10 := cell_of_row wd g 10 _ _ _ H.out.2.2
    have kz := fun j => frozen_of_row wd g j _ _ H.out.2.2
    have hgb : ¬ g = bi := by have := hX1lt.out; have := H.out.2.1; omega
    have hgb' : ¬ bi = g := fun e => hgb e.symm
    go_upto_region 33 with fail
    iterate 11 go_step
    refine wp_store_mid 72 (.tmp 250) (.tmp 249) rfl bi 0 #[.int .i64 x.e.w, .bool false, .int .u32 0, .int .u32 0, .bool false, .string (ByteArray.mk #[]), .int .u32 0, .int .i64 0, .int .i64 0, .bool false, .bool false] (by rfl) (by rfl) hth (by kernel_rfl) (all_oneCell_toArray (by intro u hu; simp at hu; rcases hu with rfl | rfl | rfl | rfl | rfl | rfl | rfl | rfl | rfl | rfl | rfl <;> rfl)) ?_
    clear hth x0 x1 x2 x3 x4 x5 x6 x7 x8 x9 x10 fz k0 k1 k2 k3 k4 k5 k6 k7 k8 k9 k10 kz
    go_wp2_with fail
    go_ret
    have tt : Tn w (wd.setCells bi 0 #[.int .i64 x.e.w, .bool false, .int .u32 0, .int .u32 0, .bool false, .string (ByteArray.mk #[]), .int .u32 0, .int .i64 0, .int .i64 0, .bool false, .bool false].toList) bi 0 (0 + 11) := (tn_set (tn_set (tn_set (tn_set (tn_set (tn_set (tn_set (tn_set (tn_set (tn_set (tn_set T1.out (by omega) (by omega)) (by omega) (by omega)) (by omega) (by omega)) (by omega) (by omega)) (by omega) (by omega)) (by omega) (by omega)) (by omega) (by omega)) (by omega) (by omega)) (by omega) (by omega)) (by omega) (by omega)) (by omega) (by omega))
    have xx : ExW (wd.setCells bi 0 #[.int .i64 x.e.w, .bool false, .int .u32 0, .int .u32 0, .bool false, .string (ByteArray.mk #[]), .int .u32 0, .int .i64 0, .int .i64 0, .bool false, .bool false].toList) bi 0 ⟨x.e.rst 1, false, 0⟩ := (ExW.s10 (ExW.s9 (ExW.s8 (ExW.s7 (ExW.s6 (ExW.s5 (ExW.s4 (ExW.s3 (ExW.s2 (ExW.s1 (ExW.s0 HX.out) false) 0) 0) false) (ByteArray.mk #[])) 0) 0) 0) false) false)
    exact ⟨rfl, tt, xx⟩
set_option maxHeartbeats 2000000 in
theorem rule7_2 (p ge ec k i bi : Nat) (x : Ex) (fss fnn : Nat) (fon : Bool) (fcd : Int) (fn : Nat) (a : Option Addr) (cap : Nat) (w : World) (j0 : w.cell? ⟨p, 0, none⟩ = some (.slice (some ⟨ge, 0, none⟩) k ec)) (o0 : w.cell? ⟨ge, i, none⟩ = some (.slice (some ⟨bi, 0, none⟩) 2 2)) (hi : i < k) (h : ExW w bi 11 x) :
    Calls Try.prog 21 #[.pointer (some ⟨p, 0, none⟩), .agg #[.int .i64 7, .int .i64 ((i : Nat) : Int), .int .i64 2, .int .u32 (fss : Nat), .int .u32 (fnn : Nat), .bool fon, .int .i64 fcd, .slice a fn cap]] w fun r w' => r = .returned (.int .i64 0) ∧ Hid (Tn w w' bi 11 (11 + 11) ∧ ExW w' bi 11 ⟨x.e.rst 2, false, 0⟩) := by
  have b1 : Below w.heap.size w (w.alloc (.cells #[.int .i64 7, .int .i64 ((i : Nat) : Int), .int .i64 2, .int .u32 (fss : Nat), .int .u32 (fnn : Nat), .bool fon, .int .i64 fcd, .slice a fn cap] 43)) := belowG (Below.refl _ _) _
  have e0 := heap_alloc_new w (.cells #[.int .i64 7, .int .i64 ((i : Nat) : Int), .int .i64 2, .int .u32 (fss : Nat), .int .u32 (fnn : Nat), .bool fon, .int .i64 fcd, .slice a fn cap] 43)
  obtain ⟨w1, hw1⟩ : ∃ x : World, w.alloc (.cells #[.int .i64 7, .int .i64 ((i : Nat) : Int), .int .i64 2, .int .u32 (fss : Nat), .int .u32 (fnn : Nat), .bool fon, .int .i64 fcd, .slice a fn cap] 43) = x := ⟨_, rfl⟩
  obtain ⟨B, hB⟩ : ∃ x, w.heap.size = x := ⟨_, rfl⟩
  rw [hw1] at b1 e0
  rw [hB] at e0
  have T1 : Hid (Tn w w1 bi 11 (11 + 11)) := Tn.of_below 11 (11 + 11) b1 h.lt
  have HX : Hid (ExW w1 bi 11 x) := h.below b1
  have X1 := h.below b1
  have y0 := cell_belowJ j0 b1
  have y1 := cell_belowJ o0 b1
  have hi1 : ((i : Nat) : Int) < ((k : Nat) : Int) := by omega
  have hi2 : ¬ ((i : Nat) : Int) < 0 := by omega
  have hi3 : ¬ ((k : Nat) : Int) ≤ ((i : Nat) : Int) := by omega
  have hne : ¬ bi = B := by have := h.lt; omega
  have hw1s : Hid (w.heap.size ≤ w1.heap.size) := b1.size
  have hX1lt : Hid (bi < w1.heap.size) := X1.lt
  go_enter Try.func21, Try.ntmps21
  go_wp2_with fail
  clear hw1 hB b1 h j0 o0
  have z0 := cell_of_row w1 B 0 _ _ _ e0
  have z1 := cell_of_row w1 B 1 _ _ _ e0
  have z2 := cell_of_row w1 B 2 _ _ _ e0
  have z3 := cell_of_row w1 B 3 _ _ _ e0
  have z4 := cell_of_row w1 B 4 _ _ _ e0
  have z7 := cell_of_row w1 B 7 _ _ _ e0
  obtain ⟨x0, x1, x2, x3, x4, x5, x6, x7, x8, x9, x10, fz⟩ := X1
  go_quiet (fail)
  go_wp2_with fail
  go_quiet (fail)
  go_upto_region 30 with fail
  have hth : ∀ n, ((w1.drewN n).alloc (.cells #[.int .i64 0, .bool false, .int .u32 0, .int .u32 0, .bool false, .string (ByteArray.mk #[]), .int .u32 0, .int .i64 0, .int .i64 0, .bool false, .bool false] 72)).there w1.heap.size 0 11 := fun n => there_new (w1.drewN n) #[.int .i64 0, .bool false, .int .u32 0, .int .u32 0, .bool false, .string (ByteArray.mk #[]), .int .u32 0, .int .i64 0, .int .i64 0, .bool false, .bool false] 72 11 rfl
  go_cut [8] (fun x8 wx => ∃ g, x8 = .pointer (some ⟨g, 0, none⟩) ∧ Hid (Below w1.heap.size w1 wx ∧ w1.heap.size ≤ g ∧ wx.heap[g]? = some (.cells #[.int .i64 x.e.w, .bool false, .int .u32 0, .int .u32 0, .bool false, .string (ByteArray.mk #[]), .int .u32 0, .int .i64 0, .int .i64 0, .bool false, .bool false] 72 (0, 0))))
  case first =>
    iterate 16 go_step
    iterate 4 go_step
    refine wp_store_mid 72 (.tmp 8) (.tmp 231) rfl w1.heap.size 0 #[.int .i64 x.e.w, .bool false, .int .u32 0, .int .u32 0, .bool false, .string (ByteArray.mk #[]), .int .u32 0, .int .i64 0, .int .i64 0, .bool false, .bool false] (by rfl) (by rfl) (hth _) (by kernel_rfl) (all_oneCell_toArray (by intro u hu; simp at hu; rcases hu with rfl | rfl | rfl | rfl | rfl | rfl | rfl | rfl | rfl | rfl | rfl <;> rfl)) ?_
    go_wp2_with fail
    go_meet
    refine ⟨w1.heap.size, rfl, ?_, Nat.le_refl _, end_new _ x.e.w⟩
    exact below_setCells (belowG (belowN (Below.refl _ _) _) _) (Nat.le_refl _)
  case rest =>
    obtain ⟨g, rfl, H⟩ := hcut
    obtain ⟨wd, hwd⟩ : ∃ x, wc = x := ⟨_, rfl⟩
    rw [hwd] at H ⊢
    clear hwd wc hth
    have HX := hid7 (HX.out.below H.out.1)
    have T1 := hid7 (T1.out.trans (Tn.of_below 11 (11 + 11) H.out.1 (Nat.lt_of_lt_of_le (hX1lt.out) (Nat.le_refl _))))
    obtain ⟨x0, x1, x2, x3, x4, x5, x6, x7, x8, x9, x10, fz⟩ := HX.out
    have hth : wd.there bi 11 11 := fun j hj => by
      have : j = 0 ∨ j = 1 ∨ j = 2 ∨ j = 3 ∨ j = 4 ∨ j = 5 ∨ j = 6 ∨ j = 7 ∨ j = 8 ∨ j = 9 ∨ j = 10 := by omega
      refine ⟨?_, fz _⟩
      rcases this with rfl | rfl | rfl | rfl | rfl | rfl | rfl | rfl | rfl | rfl | rfl
      · rw [show wd.cell? ⟨bi, 11 + 0, none⟩ = _ from x0]; rfl
      · rw [show wd.cell? ⟨bi, 11 + 1, none⟩ = _ from x1]; rfl
      · rw [show wd.cell? ⟨bi, 11 + 2, none⟩ = _ from x2]; rfl
      · rw [show wd.cell? ⟨bi, 11 + 3, none⟩ = _ from x3]; rfl
      · rw [show wd.cell? ⟨bi, 11 + 4, none⟩ = _ from x4]; rfl
      · rw [show wd.cell? ⟨bi, 11 + 5, none⟩ = _ from x5]; rfl
      · rw [show wd.cell? ⟨bi, 11 + 6, none⟩ = _ from x6]; rfl
      · rw [show wd.cell? ⟨bi, 11 + 7, none⟩ = _ from x7]; rfl
      · rw [show wd.cell? ⟨bi, 11 + 8, none⟩ = _ from x8]; rfl
      · rw [show wd.cell? ⟨bi, 11 + 9, none⟩ = _ from x9]; rfl
      · rw [show wd.cell? ⟨bi, 11 + 10, none⟩ = _ from x10]; rfl
    have k0 := cell_of_row wd g 0 _ _ _ H.out.2.2
    have k1 := cell_of_row wd g 1 _ _ _ H.out.2.2
    have k2 := cell_of_row wd g 2 _ _ _ H.out.2.2
    have k3 := cell_of_row wd g 3 _ _ _ H.out.2.2
    have k4 := cell_of_row wd g 4 _ _ _ H.out.2.2
    have k5 := cell_of_row wd g 5 _ _ _ H.out.2.2
    have k6 := cell_of_row wd g 6 _ _ _ H.out.2.2
    have k7 := cell_of_row wd g 7 _ _ _ H.out.2.2
    have k8 := cell_of_row wd g 8 _ _ _ H.out.2.2
    have k9 := cell_of_row wd g 9 _ _ _ H.out.2.2
    have k10 := cell_of_row wd g 10 _ _ _ H.out.2.2
    have HG0 : w.heap.size ≤ g := Nat.le_trans hw1s.out H.out.2.1
    have kz := fun j => frozen_of_row wd g j _ _ H.out.2.2
    have hgb : ¬ g = bi := by have := hX1lt.out; have := H.out.2.1; omega
    have hgb' : ¬ bi = g := fun e => hgb e.symm
    have h4 : wd.heap.size = wd.heap.size := rfl
    have X4 : ExW ((((wd.setCell ⟨g, 1, none⟩ (.bool x.e.took)).setCell ⟨g, 2, none⟩ (.int .u32 (x.e.ls : Nat))).setCell ⟨g, 3, none⟩ (.int .u32 (x.e.ln : Nat))).drew) bi 11 x := ex_drew (((HX.out.oth hgb).oth hgb).oth hgb)
    have T4 := hid7 (tn_drew (tn_oth (tn_oth (tn_oth T1.out hgb HG0) hgb HG0) hgb HG0) : Tn w ((((wd.setCell ⟨g, 1, none⟩ (.bool x.e.took)).setCell ⟨g, 2, none⟩ (.int .u32 (x.e.ls : Nat))).setCell ⟨g, 3, none⟩ (.int .u32 (x.e.ln : Nat))).drew) bi 11 (11 + 11))
    have HX4 := hid7 X4
    have hth4 : World.there ((((wd.setCell ⟨g, 1, none⟩ (.bool x.e.took)).setCell ⟨g, 2, none⟩ (.int .u32 (x.e.ls : Nat))).setCell ⟨g, 3, none⟩ (.int .u32 (x.e.ln : Nat))).drew) bi 11 11 := fun j hj => ⟨by
      have := (hth j hj).1
      obtain ⟨u, hu⟩ := Option.isSome_iff_exists.1 this
      have e : (Addr.mk bi (11 + j) none) = ⟨bi, 11 + j, none⟩ := rfl
      show (World.cell? ((((wd.setCell ⟨g, 1, none⟩ (.bool x.e.took)).setCell ⟨g, 2, none⟩ (.int .u32 (x.e.ls : Nat))).setCell ⟨g, 3, none⟩ (.int .u32 (x.e.ln : Nat))).drew) ⟨bi, 11 + j, none⟩).isSome = true
      rw [show World.cell? ((((wd.setCell ⟨g, 1, none⟩ (.bool x.e.took)).setCell ⟨g, 2, none⟩ (.int .u32 (x.e.ls : Nat))).setCell ⟨g, 3, none⟩ (.int .u32 (x.e.ln : Nat))).drew) ⟨bi, 11 + j, none⟩ = wd.cell? ⟨bi, 11 + j, none⟩ from ((World.cell?_setCell_other _ _ _ _ (by intro e; have := congrArg Addr.block e; simp at this; omega)).trans (World.cell?_setCell_other _ _ _ _ (by intro e; have := congrArg Addr.block e; simp at this; omega))).trans (World.cell?_setCell_other _ _ _ _ (by intro e; have := congrArg Addr.block e; simp at this; omega))]
      exact this, X4.fz _⟩
    clear h4
    go_upto_region 32 with fail
    go_region
    all_goals
      go_upto_region 33 with fail
      iterate 11 go_step
      refine wp_store_mid 72 (.tmp 250) (.tmp 249) rfl bi 11 #[.int .i64 x.e.w, .bool x.e.took, .int .u32 (x.e.ls : Nat), .int .u32 (x.e.ln : Nat), .bool false, .string (ByteArray.mk #[]), .int .u32 0, .int .i64 0, .int .i64 0, .bool false, .bool false] (by rfl) (by rfl) hth4 (by kernel_rfl) (all_oneCell_toArray (by intro u hu; simp at hu; rcases hu with rfl | rfl | rfl | rfl | rfl | rfl | rfl | rfl | rfl | rfl | rfl <;> rfl)) ?_
      clear hth hth4 x0 x1 x2 x3 x4 x5 x6 x7 x8 x9 x10 fz k0 k1 k2 k3 k4 k5 k6 k7 k8 k9 k10 kz
      go_wp2_with fail
      go_ret
      have tt : Tn w (((((wd.setCell ⟨g, 1, none⟩ (.bool x.e.took)).setCell ⟨g, 2, none⟩ (.int .u32 (x.e.ls : Nat))).setCell ⟨g, 3, none⟩ (.int .u32 (x.e.ln : Nat))).drew).setCells bi 11 #[.int .i64 x.e.w, .bool x.e.took, .int .u32 (x.e.ls : Nat), .int .u32 (x.e.ln : Nat), .bool false, .string (ByteArray.mk #[]), .int .u32 0, .int .i64 0, .int .i64 0, .bool false, .bool false].toList) bi 11 (11 + 11) := (tn_set (tn_set (tn_set (tn_set (tn_set (tn_set (tn_set (tn_set (tn_set (tn_set (tn_set T4.out (by omega) (by omega)) (by omega) (by omega)) (by omega) (by omega)) (by omega) (by omega)) (by omega) (by omega)) (by omega) (by omega)) (by omega) (by omega)) (by omega) (by omega)) (by omega) (by omega)) (by omega) (by omega)) (by omega) (by omega))
      have xx : ExW (((((wd.setCell ⟨g, 1, none⟩ (.bool x.e.took)).setCell ⟨g, 2, none⟩ (.int .u32 (x.e.ls : Nat))).setCell ⟨g, 3, none⟩ (.int .u32 (x.e.ln : Nat))).drew).setCells bi 11 #[.int .i64 x.e.w, .bool x.e.took, .int .u32 (x.e.ls : Nat), .int .u32 (x.e.ln : Nat), .bool false, .string (ByteArray.mk #[]), .int .u32 0, .int .i64 0, .int .i64 0, .bool false, .bool false].toList) bi 11 ⟨x.e.rst 2, false, 0⟩ := (ExW.s10 (ExW.s9 (ExW.s8 (ExW.s7 (ExW.s6 (ExW.s5 (ExW.s4 (ExW.s3 (ExW.s2 (ExW.s1 (ExW.s0 HX4.out) x.e.took) x.e.ls) x.e.ln) false) (ByteArray.mk #[])) 0) 0) 0) false) false)
      exact ⟨rfl, tt, xx⟩
end Go.Proofs.Ythlgahkoignnkaa
