/- Layer 5: a nil meter. -/
import Derived.Test.YtejjhenkhleibaaMeter3
namespace Go.Proofs.Ytejjhenkhleibaa
open Go.RowKit

/-- A call's block, its fields in their order. -/
structure OpAt (w : World) (g : Nat) (k wh a b i j s n : Int) : Prop where
  at_ : w.heap[g]? = some (.cells #[.int .i64 k, .int .i64 wh, .int .u64 a, .int .u64 b, .int .i64 i, .int .i64 j, .int .u32 s, .int .u32 n] 36 (0, 0))
theorem OpAt.lt {w : World} {g : Nat} {k wh a b i j s n : Int} (h : OpAt w g k wh a b i j s n) : g < w.heap.size := (Array.getElem?_eq_some_iff.1 h.at_).1
theorem OpAt.off {l : List Nat} {w w' : World} {g : Nat} {k wh a b i j s n : Int} (h : OpAt w g k wh a b i j s n) (o : Off l w w') (hg : g ∉ l) : OpAt w' g k wh a b i j s n := ⟨(o.block g h.lt hg).trans h.at_⟩
theorem OpAt.cells {w : World} {g : Nat} {k wh a b i j s n : Int} (h : OpAt w g k wh a b i j s n) :
    w.cell? ⟨g, 0, none⟩ = some (.int .i64 k) ∧ w.cell? ⟨g, 1, none⟩ = some (.int .i64 wh) ∧ w.cell? ⟨g, 2, none⟩ = some (.int .u64 a) ∧ w.cell? ⟨g, 3, none⟩ = some (.int .u64 b) ∧
    w.cell? ⟨g, 4, none⟩ = some (.int .i64 i) ∧ w.cell? ⟨g, 5, none⟩ = some (.int .i64 j) ∧ w.cell? ⟨g, 6, none⟩ = some (.int .u32 s) ∧ w.cell? ⟨g, 7, none⟩ = some (.int .u32 n) :=
  ⟨cell_of_row w g 0 _ _ _ h.at_, cell_of_row w g 1 _ _ _ h.at_, cell_of_row w g 2 _ _ _ h.at_, cell_of_row w g 3 _ _ _ h.at_, cell_of_row w g 4 _ _ _ h.at_, cell_of_row w g 5 _ _ _ h.at_, cell_of_row w g 6 _ _ _ h.at_, cell_of_row w g 7 _ _ _ h.at_⟩
set_option maxHeartbeats 1000000 in
theorem nil_core (k wh a b i j s n : Int) (w : World) :
    Calls Try.prog 7 #[.agg #[.int .i64 k, .int .i64 wh, .int .u64 a, .int .u64 b, .int .i64 i, .int .i64 j, .int .u32 s, .int .u32 n]] w fun e w' => e = .returned (.bool true) ∧ Below w.heap.size w w' := by
  have oa : OpAt (w.alloc (.cells #[.int .i64 k, .int .i64 wh, .int .u64 a, .int .u64 b, .int .i64 i, .int .i64 j, .int .u32 s, .int .u32 n] 36)) w.heap.size k wh a b i j s n := ⟨heap_alloc_new w _⟩
  have ba : Below w.heap.size w (w.alloc (.cells #[.int .i64 k, .int .i64 wh, .int .u64 a, .int .u64 b, .int .i64 i, .int .i64 j, .int .u32 s, .int .u32 n] 36)) := (Below.refl _ _).alloc (Nat.le_refl _) _
  go_enter Try.func7, Try.ntmps7
  go_wp2_with fail
  generalize w.alloc (.cells #[.int .i64 k, .int .i64 wh, .int .u64 a, .int .u64 b, .int .i64 i, .int .i64 j, .int .u32 s, .int .u32 n] 36) = wa at *
  refine (awake5 wa).mono ?_
  rintro e w1 ⟨rfl, hb1⟩
  have o1 := oa.off (Off.of_below (l := []) hb1) (by simp)
  have b1 := ba.trans (hb1.mono ba.size)
  clear oa ba hb1
  obtain ⟨_, _, c2, c3, c4, c5, c6, c7⟩ := o1.cells
  have qA := add_nil a w1
  have qS := swap_nil a w1
  have qP := peak_nil w1
  go_wp2_with (first | (go_at_call 12; refine qA.mono ?_; rintro e w' ⟨rfl, hw⟩; rw [hw]; clear hw) | (go_at_call 19; refine qS.mono ?_; rintro e w' ⟨rfl, hw⟩; rw [hw]; clear hw) | (go_at_call 15; refine qP.mono ?_; rintro e w' ⟨rfl, hw⟩; rw [hw]; clear hw))
  refine (last_nil w1).mono ?_
  rintro e w2 ⟨rfl, hb2⟩
  have o2 := o1.off (Off.of_below (l := []) hb2) (by simp)
  have b2 := b1.trans (hb2.mono b1.size)
  have o3 := o2.off (Off.alloc [] w2 ZR) (by simp)
  have b3 := b2.alloc b2.size ZR
  have z3 := heap_alloc_new w2 ZR
  clear c2 c3 c4 c5 c6 c7 qA qS qP o1 b1 hb2 o2 b2
  obtain ⟨_, _, c2, c3, c4, c5, c6, c7⟩ := o3.cells
  go_wp2_with fail
  have hl3 : w2.heap.size < (w2.alloc ZR).heap.size := by simp
  generalize w2.alloc ZR = w3 at *
  generalize w2.heap.size = g1 at *
  refine (note_nil i j s n w3).mono ?_
  rintro e w4 ⟨rfl, hb4⟩
  have o4 := o3.off (Off.of_below (l := []) hb4) (by simp)
  have b4 := b3.trans (hb4.mono b3.size)
  have z4 := (hb4.block g1 hl3).trans z3
  have hl4 := (Array.getElem?_eq_some_iff.1 z4).1
  have o5 := o4.off (Off.alloc [] w4 ZR) (by simp)
  have b5 := b4.alloc b4.size ZR
  have z5 := (heap_alloc_old w4 ZR hl4).trans z4
  have y5 := heap_alloc_new w4 ZR
  have hl5 : w4.heap.size < (w4.alloc ZR).heap.size := by simp
  have hm5 := (Array.getElem?_eq_some_iff.1 z5).1
  clear c2 c3 c4 c5 c6 c7 o3 b3 z3 hb4 o4 b4 z4 hl3 hl4
  obtain ⟨_, _, c2, c3, c4, c5, c6, c7⟩ := o5.cells
  have qM := move_nil a b (w4.alloc ZR)
  go_wp2_with (go_at_call 22; refine qM.mono ?_; rintro e w' ⟨rfl, hw⟩; rw [hw]; clear hw)
  generalize w4.alloc ZR = w5 at *
  generalize w4.heap.size = g2 at *
  refine (raise_nil _ w5).mono ?_
  rintro e w6 ⟨rfl, hw6⟩
  have o6 : OpAt w6 w.heap.size k wh a b i j s n := by rw [hw6]; exact o5.off (Off.alloc [] w5 _) (by simp)
  have b6 : Below w.heap.size w w6 := by rw [hw6]; exact b5.alloc b5.size _
  have z6 : w6.heap[g1]? = some ZR := by rw [hw6]; exact (heap_alloc_old w5 _ hm5).trans z5
  have y6 : w6.heap[g2]? = some ZR := by rw [hw6]; exact (heap_alloc_old w5 _ hl5).trans y5
  clear hw6 c2 c3 c4 c5 c6 c7 o5 b5 z5 y5 hm5 hl5 qM
  obtain ⟨_, _, c2, c3, c4, c5, c6, c7⟩ := o6.cells
  obtain ⟨u0, u1, u2, u3, _⟩ := four_cells z6
  obtain ⟨v0, v1, v2, v3, _⟩ := four_cells y6
  clear o6 z6 y6
  have qT := total_nil w6
  have qF := flags_nil w6
  have qU := turn_nil true w6
  have qO := on_nil w6
  go_wp2_with (first | (go_at_call 16; refine (set_nil _ w6).mono ?_; rintro e w' ⟨rfl, hw⟩; rw [hw]; clear hw) | (go_at_call 17; refine (clear_nil _ w6).mono ?_; rintro e w' ⟨rfl, hw⟩; rw [hw]; clear hw) | (go_at_call 13; refine qT.mono ?_; rintro e w' ⟨rfl, hw⟩; rw [hw]; clear hw) | (go_at_call 18; refine qF.mono ?_; rintro e w' ⟨rfl, hw⟩; rw [hw]; clear hw) | (go_at_call 23; refine qU.mono ?_; rintro e w' ⟨rfl, hw⟩; rw [hw]; clear hw) | (go_at_call 24; refine qO.mono ?_; rintro e w' ⟨rfl, hw⟩; rw [hw]; clear hw))
  go_ret
  exact ⟨rfl, b6⟩

end Go.Proofs.Ytejjhenkhleibaa
