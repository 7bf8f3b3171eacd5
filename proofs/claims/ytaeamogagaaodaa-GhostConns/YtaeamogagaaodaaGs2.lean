/- Layer 17: Lone: a net of one connection. -/
import Derived.Test.YtaeamogagaaodaaGs
namespace Go.Proofs.Ytaeamogagaaodaa
open Go.RowKit Go.Maps Go.Sort
set_option maxRecDepth 100000

theorem PRow.one {w : World} {g : Nat} {p : Pg} (h : w.heap[g]? = some (.cells (pgL p).toArray 70 (0, 0))) : PRow w (some ⟨g, 0, none⟩) 1 (fun _ => p) := fun i hi => by
  obtain rfl : i = 0 := by omega
  exact ⟨g, 0, rfl, cell_of_row w g 0 _ _ _ h, cell_of_row w g 1 _ _ _ h, cell_of_row w g 2 _ _ _ h, cell_of_row w g 3 _ _ _ h, cell_of_row w g 4 _ _ _ h⟩
set_option maxHeartbeats 2000000 in
theorem glone (w : World) : Calls Try.prog 17 #[] w fun r w' => ∃ a0 a1, r = .returned (.agg #[.slice a0 1 1, .slice a1 1 1, .int .u32 50]) ∧ Hid (PRow w' a0 1 (fun _ => pgS) ∧ PRow w' a1 1 (fun _ => pgS) ∧ Below w.heap.size w w') := by
  have hS := fun wx => gsmall wx
  have b1 : Below w.heap.size w (w.alloc (.cells #[.slice none 0 0, .slice none 0 0, .int .u32 0] 25)) := belowG (Below.refl _ _) _
  have hk := heap_alloc_new w (.cells #[.slice none 0 0, .slice none 0 0, .int .u32 0] 25)
  go_enter Try.func17, Try.ntmps17
  go_wp2_with fail
  refine (hS _).mono ?_
  rintro r w3 ⟨rfl, b3⟩
  have k3 := (b3.block w.heap.size (by simp)).trans hk
  have b5 : Below w3.heap.size w3 (((w3.alloc (.cells #[.int .u32 7, .int .i64 2, .int .i64 1, .int .i64 10, .int .u32 9] 70)).alloc (.cells #[.int .u32 7, .int .i64 2, .int .i64 1, .int .i64 10, .int .u32 9] 70)).alloc (.cells #[.int .u32 7, .int .i64 2, .int .i64 1, .int .i64 10, .int .u32 9] 70)) := belowG (belowG (belowG (Below.refl _ _) _) _) _
  have l3 : w.heap.size < w3.heap.size := by have := b3.size; simp at this; omega
  have k5 := (b5.block w.heap.size l3).trans k3
  have y0 := cell_of_row (((w3.alloc (.cells #[.int .u32 7, .int .i64 2, .int .i64 1, .int .i64 10, .int .u32 9] 70)).alloc (.cells #[.int .u32 7, .int .i64 2, .int .i64 1, .int .i64 10, .int .u32 9] 70)).alloc (.cells #[.int .u32 7, .int .i64 2, .int .i64 1, .int .i64 10, .int .u32 9] 70)) _ 0 _ _ _ k5
  have y1 := cell_of_row (((w3.alloc (.cells #[.int .u32 7, .int .i64 2, .int .i64 1, .int .i64 10, .int .u32 9] 70)).alloc (.cells #[.int .u32 7, .int .i64 2, .int .i64 1, .int .i64 10, .int .u32 9] 70)).alloc (.cells #[.int .u32 7, .int .i64 2, .int .i64 1, .int .i64 10, .int .u32 9] 70)) _ 1 _ _ _ k5
  have y2 := cell_of_row (((w3.alloc (.cells #[.int .u32 7, .int .i64 2, .int .i64 1, .int .i64 10, .int .u32 9] 70)).alloc (.cells #[.int .u32 7, .int .i64 2, .int .i64 1, .int .i64 10, .int .u32 9] 70)).alloc (.cells #[.int .u32 7, .int .i64 2, .int .i64 1, .int .i64 10, .int .u32 9] 70)) _ 2 _ _ _ k5
  have yz := fun k => frozen_of_row (((w3.alloc (.cells #[.int .u32 7, .int .i64 2, .int .i64 1, .int .i64 10, .int .u32 9] 70)).alloc (.cells #[.int .u32 7, .int .i64 2, .int .i64 1, .int .i64 10, .int .u32 9] 70)).alloc (.cells #[.int .u32 7, .int .i64 2, .int .i64 1, .int .i64 10, .int .u32 9] 70)) _ k _ _ k5
  have n1 := ((belowG (Below.refl _ _) (.cells #[.int .u32 7, .int .i64 2, .int .i64 1, .int .i64 10, .int .u32 9] 70)).block (w3.heap.size + 1) (by simp)).trans (by have := heap_alloc_new (w3.alloc (.cells #[.int .u32 7, .int .i64 2, .int .i64 1, .int .i64 10, .int .u32 9] 70)) (.cells #[.int .u32 7, .int .i64 2, .int .i64 1, .int .i64 10, .int .u32 9] 70); simp only [World.size_alloc] at this; exact this : ((w3.alloc (.cells #[.int .u32 7, .int .i64 2, .int .i64 1, .int .i64 10, .int .u32 9] 70)).alloc (.cells #[.int .u32 7, .int .i64 2, .int .i64 1, .int .i64 10, .int .u32 9] 70)).heap[w3.heap.size + 1]? = some (.cells (pgL pgS).toArray 70 (0, 0)))
  have n2 : (((w3.alloc (.cells #[.int .u32 7, .int .i64 2, .int .i64 1, .int .i64 10, .int .u32 9] 70)).alloc (.cells #[.int .u32 7, .int .i64 2, .int .i64 1, .int .i64 10, .int .u32 9] 70)).alloc (.cells #[.int .u32 7, .int .i64 2, .int .i64 1, .int .i64 10, .int .u32 9] 70)).heap[w3.heap.size + 1 + 1]? = some (.cells (pgL pgS).toArray 70 (0, 0)) := by
    have := heap_alloc_new ((w3.alloc (.cells #[.int .u32 7, .int .i64 2, .int .i64 1, .int .i64 10, .int .u32 9] 70)).alloc (.cells #[.int .u32 7, .int .i64 2, .int .i64 1, .int .i64 10, .int .u32 9] 70)) (.cells #[.int .u32 7, .int .i64 2, .int .i64 1, .int .i64 10, .int .u32 9] 70)
    simp only [World.size_alloc] at this
    exact this
  have HN : Hid (_) := And.intro n1 (And.intro n2 (And.intro b3 (And.intro b5 l3)))
  have HB1 : Hid (_) := b1
  clear n1 n2 b3 b5 k3 k5 hk b1
  go_wp2_with fail
  refine bodyPost_ret (v := .agg #[.slice (some ⟨w3.heap.size + 1, 0, none⟩) 1 1, .slice (some ⟨w3.heap.size + 1 + 1, 0, none⟩) 1 1, .int .u32 50]) (by simp [results, Try.results17, go_sem, y0, y1, y2]) rfl ?_
  obtain ⟨n1, n2, b3, b5, l3⟩ := HN.out
  have o : Off [w.heap.size] (((w3.alloc (.cells #[.int .u32 7, .int .i64 2, .int .i64 1, .int .i64 10, .int .u32 9] 70)).alloc (.cells #[.int .u32 7, .int .i64 2, .int .i64 1, .int .i64 10, .int .u32 9] 70)).alloc (.cells #[.int .u32 7, .int .i64 2, .int .i64 1, .int .i64 10, .int .u32 9] 70)) ((((((w3.alloc (.cells #[.int .u32 7, .int .i64 2, .int .i64 1, .int .i64 10, .int .u32 9] 70)).alloc (.cells #[.int .u32 7, .int .i64 2, .int .i64 1, .int .i64 10, .int .u32 9] 70)).alloc (.cells #[.int .u32 7, .int .i64 2, .int .i64 1, .int .i64 10, .int .u32 9] 70)).setCell ⟨w.heap.size, 0, none⟩ (.slice (some ⟨w3.heap.size + 1, 0, none⟩) 1 1)).setCell ⟨w.heap.size, 1, none⟩ (.slice (some ⟨w3.heap.size + 1 + 1, 0, none⟩) 1 1)).setCell ⟨w.heap.size, 2, none⟩ (.int .u32 50)) := ((Off.setCell _ _ _ _).trans (Off.setCell _ _ _ _)).trans (Off.setCell _ _ _ _)
  have s5 : (((w3.alloc (.cells #[.int .u32 7, .int .i64 2, .int .i64 1, .int .i64 10, .int .u32 9] 70)).alloc (.cells #[.int .u32 7, .int .i64 2, .int .i64 1, .int .i64 10, .int .u32 9] 70)).alloc (.cells #[.int .u32 7, .int .i64 2, .int .i64 1, .int .i64 10, .int .u32 9] 70)).heap.size = w3.heap.size + 3 := by simp
  have m1 := (o.block (w3.heap.size + 1) (by omega) (by simp; omega)).trans n1
  have m2 := (o.block (w3.heap.size + 1 + 1) (by omega) (by simp; omega)).trans n2
  have bw : Below w.heap.size w (((w3.alloc (.cells #[.int .u32 7, .int .i64 2, .int .i64 1, .int .i64 10, .int .u32 9] 70)).alloc (.cells #[.int .u32 7, .int .i64 2, .int .i64 1, .int .i64 10, .int .u32 9] 70)).alloc (.cells #[.int .u32 7, .int .i64 2, .int .i64 1, .int .i64 10, .int .u32 9] 70)) := (HB1.out.trans (b3.mono (by simp))).trans (b5.mono (by omega))
  exact ⟨_, _, rfl, PRow.one m1, PRow.one m2, o.below bw (fun k hk => by simp at hk; omega) bw.size⟩
end Go.Proofs.Ytaeamogagaaodaa
