/- newLife, goDown. -/
import Derived.Test.YtmleiemlfogffaaGreatDw3
namespace Go.Proofs.YtmleiemlfogffaaGreat
set_option maxRecDepth 100000
open Go.RowKit

/-- A new life's parts. -/
structure NL (w w' : World) (P : Pm) (db vb vg ga : Nat) : Prop where
  dog : DR w' db P.t 0
  val : VR w' vb vg [] P.o vnew
  app : w'.ownsRow w.heap.size 5 1 (.slice (some ⟨ga, 0, none⟩) P.i P.i) P.i (CB (fun _ => 0) P.i)
  bel : Below w.heap.size w w'
  h1 : w.heap.size ≤ db
  h2 : db < vb
  h3 : db < vg
  h4 : vb < ga
  h5 : vg < ga
  h6 : ga < w'.heap.size
def zLife : Array Value := #[.pointer none, .pointer none, .int .i64 0, .int .u32 0, .int .u32 0, .int .u32 0, .int .i64 0, .slice none 0 0, .bool false]
theorem two_new (w : World) (o p : Array Value) (t u : TypeId) (wx : World) (hb : Below ((w.alloc (.cells o t)).alloc (.cells p u)).heap.size ((w.alloc (.cells o t)).alloc (.cells p u)) wx) :
    wx.heap[w.heap.size]? = some (.cells o t (0, 0)) ∧ wx.heap[w.heap.size + 1]? = some (.cells p u (0, 0)) := by
  have s1 : (w.alloc (.cells o t)).heap.size = w.heap.size + 1 := by simp
  have s2 : ((w.alloc (.cells o t)).alloc (.cells p u)).heap.size = w.heap.size + 2 := by simp
  constructor
  · rw [hb.block _ (by omega), Below.heap_alloc _ _ _ (by omega)]
    exact heap_alloc_new w _
  · rw [hb.block _ (by omega), ← s1]
    exact heap_alloc_new _ _
theorem nine (b : Nat) (w : World) (x0 x1 x2 x3 x4 x5 x6 x7 x8 : Value) :
    Off [b] w (((((((((w.setCell ⟨b, 0, none⟩ x0).setCell ⟨b, 1, none⟩ x1).setCell ⟨b, 2, none⟩ x2).setCell ⟨b, 3, none⟩ x3).setCell ⟨b, 4, none⟩ x4).setCell ⟨b, 5, none⟩ x5).setCell ⟨b, 6, none⟩ x6).setCell ⟨b, 7, none⟩ x7).setCell ⟨b, 8, none⟩ x8) :=
  ((((((((Off.setCell b 0 w x0).trans (Off.setCell b 1 _ x1)).trans (Off.setCell b 2 _ x2)).trans (Off.setCell b 3 _ x3)).trans (Off.setCell b 4 _ x4)).trans (Off.setCell b 5 _ x5)).trans (Off.setCell b 6 _ x6)).trans (Off.setCell b 7 _ x7)).trans (Off.setCell b 8 _ x8)
set_option maxHeartbeats 3200000 in
theorem newLife_any (P : Pm) (hP : Pok P) (w : World) :
    Calls Tryz.prog 38 #[.agg #[.int .u32 (P.c : Nat), .int .i64 (P.o : Nat), .int .i64 (P.i : Nat), .int .i64 (P.t : Nat), .int .u32 (P.n : Nat)]] w fun e w' => ∃ db vb vg ga, e = .returned (.agg #[.pointer (some ⟨db, 0, none⟩), .pointer (some ⟨vb, 0, none⟩), .int .i64 1, .int .u32 0, .int .u32 0, .int .u32 0, .int .i64 0, .slice (some ⟨ga, 0, none⟩) P.i P.i, .bool false]) ∧ Hid (NL w w' P db vb vg ga) := by
  obtain ⟨i0, hi, hz0, hz1, hz2⟩ := info_parts info_u8
  have hX := two_new w #[.int .u32 (P.c : Nat), .int .i64 (P.o : Nat), .int .i64 (P.i : Nat), .int .i64 (P.t : Nat), .int .u32 (P.n : Nat)] zLife 24 98
  have hA : Below w.heap.size w ((w.alloc (.cells #[.int .u32 (P.c : Nat), .int .i64 (P.o : Nat), .int .i64 (P.i : Nat), .int .i64 (P.t : Nat), .int .u32 (P.n : Nat)] 24)).alloc (.cells zLife 98)) := ((Below.refl _ _).alloc (Nat.le_refl _) _).alloc (by simp) _
  have hs : ((w.alloc (.cells #[.int .u32 (P.c : Nat), .int .i64 (P.o : Nat), .int .i64 (P.i : Nat), .int .i64 (P.t : Nat), .int .u32 (P.n : Nat)] 24)).alloc (.cells zLife 98)).heap.size = w.heap.size + 2 := by simp
  have hW := fun wx => wnew_ok P.t wx hP.t1 hP.t2
  have hV := fun wx => vnew_ok P.o wx hP.o1 hP.o8
  have hi8 := hP.i8
  have hi1 := hP.i1
  have HW : Hid (_) := hW
  have HV : Hid (_) := hV
  have HA : Hid (_) := And.intro hA hs
  clear hA hs hW hV hP
  go_enter Tryz.func38, Tryz.ntmps38
  go_wp2_with fail
  refine (HW.out _).mono ?_
  rintro e w2 ⟨rfl, o2, d2⟩
  unfold zLife at hX HA
  generalize hwa : (w.alloc (.cells #[.int .u32 (P.c : Nat), .int .i64 (P.o : Nat), .int .i64 (P.i : Nat), .int .i64 (P.t : Nat), .int .u32 (P.n : Nat)] 24)).alloc (.cells #[.pointer none, .pointer none, .int .i64 0, .int .u32 0, .int .u32 0, .int .u32 0, .int .i64 0, .slice none 0 0, .bool false] 98) = wa at *
  clear hwa
  have b2 : Below wa.heap.size wa w2 := ⟨o2.os, o2.tape, o2.output, o2.size, fun k hk => o2.block k hk (by simp)⟩
  have p1 : w2.cell? ⟨w.heap.size, 1, none⟩ = some (.int .i64 (P.o : Nat)) := cell_of_row w2 _ 1 _ _ _ (hX w2 b2).1
  have K2 : Hid (_) := And.intro b2 d2
  have HX : Hid (_) := hX
  clear b2 d2 o2 HW hX
  go_wp2_with fail
  refine (HV.out _).mono ?_
  rintro e w3 ⟨vb, vg, rfl, h3⟩
  have o3 := h3.out.2.2.2.2.1
  have b3 : Below wa.heap.size wa w3 := K2.out.1.trans ⟨o3.os, o3.tape, o3.output, o3.size, fun k hk => o3.block k (Nat.lt_of_lt_of_le hk K2.out.1.size) (by simp)⟩
  have p2 : w3.cell? ⟨w.heap.size, 2, none⟩ = some (.int .i64 (P.i : Nat)) := cell_of_row w3 _ 2 _ _ _ (HX.out w3 b3).1
  have K3 : Hid (_) := And.intro b3 (And.intro (K2.out.2.off o3 (by simp)) (And.intro h3.out (Nat.lt_of_lt_of_le K2.out.2.lt (Nat.le_refl _))))
  have K4 : Hid (_) := K2.out.2.lt
  clear b3 o3 h3 p1 HV K2
  go_wp2_with (at_make; refine wpList_make8 _ rfl (.tmp 22) (.tmp 22) 25 rfl w3.heap.size 5 i0 Tryz.underlying25 hi hz0 hz1 hz2 _ _ _ _ P.i P.i rfl rfl rfl rfl (Nat.le_refl _) (by omega) (Nat.le_refl _) ?_)
  intro w4 hown4 hbel4
  have b4 : Below wa.heap.size wa w4 := K3.out.1.trans (hbel4.mono K3.out.1.size)
  have e4 := (HX.out w4 b4).2
  have y0 := cell_of_row w4 (w.heap.size + 1) 0 _ _ _ e4
  have y1 := cell_of_row w4 (w.heap.size + 1) 1 _ _ _ e4
  have y2 := cell_of_row w4 (w.heap.size + 1) 2 _ _ _ e4
  have y3 := cell_of_row w4 (w.heap.size + 1) 3 _ _ _ e4
  have y4 := cell_of_row w4 (w.heap.size + 1) 4 _ _ _ e4
  have y5 := cell_of_row w4 (w.heap.size + 1) 5 _ _ _ e4
  have y6 := cell_of_row w4 (w.heap.size + 1) 6 _ _ _ e4
  have y7 := cell_of_row w4 (w.heap.size + 1) 7 _ _ _ e4
  have y8 := cell_of_row w4 (w.heap.size + 1) 8 _ _ _ e4
  have fz := fun j => frozen_of_row w4 (w.heap.size + 1) j _ _ e4
  have f0 := fz 0
  have f1 := fz 1
  have f2 := fz 2
  have f3 := fz 3
  have f4 := fz 4
  have f5 := fz 5
  have f6 := fz 6
  have f7 := fz 7
  have f8 := fz 8
  have K5 : Hid (_) := And.intro b4 (And.intro hown4 hbel4)
  clear e4 b4 hown4 hbel4 fz p2 HX
  go_wp2_with fail
  refine bodyPost_ret (v := .agg #[.pointer (some ⟨wa.heap.size, 0, none⟩), .pointer (some ⟨vb, 0, none⟩), .int .i64 1, .int .u32 0, .int .u32 0, .int .u32 0, .int .i64 0, .slice (some ⟨w3.heap.size, 0, none⟩) P.i P.i, .bool false]) (by simp [results, Tryz.results38, go_sem, y0, y1, y2, y3, y4, y5, y6, y7, y8]) rfl ⟨wa.heap.size, vb, vg, w3.heap.size, rfl, ?_⟩
  obtain ⟨b4, hown4, hbel4⟩ := K5.out
  obtain ⟨b3, d3, ⟨v1, v2, v3, v4, o3, x3⟩, _⟩ := K3.out
  obtain ⟨hA, hs⟩ := HA.out
  have hlt := (hown4.lt _ rfl).2
  have k4 := K4.out
  have oo : Off [w.heap.size + 1] w4 _ := nine (w.heap.size + 1) w4 (.pointer (some ⟨wa.heap.size, 0, none⟩)) (.pointer (some ⟨vb, 0, none⟩)) (.int .i64 1) (.int .u32 0) (.int .u32 0) (.int .u32 0) (.int .i64 0) (.slice (some ⟨w3.heap.size, 0, none⟩) P.i P.i) (.bool false)
  have q4 := Off.of_below (l := []) hbel4
  have sz := oo.size
  have s3 := b3.size
  have s4 := b4.size
  have so : w4.ownsRow w.heap.size 5 1 (.slice (some ⟨w3.heap.size, 0, none⟩) P.i P.i) P.i (CB (fun _ => 0) P.i) := own_base hown4 (by omega)
  have z6 : w3.heap.size < w4.heap.size := hlt
  have z2 : wa.heap.size < vb := by omega
  have z3 : wa.heap.size < vg := by omega
  refine ⟨(d3.off q4 (by simp)).off oo (by simp; omega), ((x3.off q4 (by simp) (by simp) (by simp)).off oo (by simp; omega) (by simp; omega) (by simp)), own_offk so oo ?_, ?_, by omega, z2, z3, v3, v4, Nat.lt_of_lt_of_le z6 sz⟩
  · intro k hk
    cases hk
    have := b3.size
    simp; omega
  · have bo := oo.below (B := w.heap.size) (w0 := w) (hA.trans (b4.mono (by omega))) (by simp) (by have := b4.size; omega)
    exact bo

end Go.Proofs.YtmleiemlfogffaaGreat
