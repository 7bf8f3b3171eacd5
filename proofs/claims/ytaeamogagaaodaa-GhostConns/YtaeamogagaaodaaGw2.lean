/- Layer 18: Awake. (gengw2.py) -/
import Derived.Test.YtaeamogagaaodaaGw
import Derived.Test.YtaeamogagaaodaaGs2
namespace Go.Proofs.Ytaeamogagaaodaa
open Go.RowKit Go.Maps Go.Sort
set_option maxRecDepth 100000
theorem awF_ok : ∀ i, (awF i).Ok
  | 0 => ⟨rfl, rfl, by decide, by decide, by decide⟩
  | 1 => ⟨rfl, rfl, by decide, by decide, by decide⟩
  | 2 => ⟨rfl, rfl, by decide, by decide, by decide⟩
  | _ + 3 => ⟨rfl, rfl, by show 0 < 4294967296; omega, by show 0 < 4294967296; omega, by show 1 ≤ 140737488351232; omega⟩
/-- The facts as Awake lays them. -/
theorem aw_row {W : World} {g p : Nat} {cur : Array Value} (hg : W.heap[g]? = some (.cells cur 43 (0, 0))) (hp : W.heap[p]? = some (.cells #[.int .u8 5] 5 (0, 0))) (hc : cur = #[.int .i64 3, .int .i64 0, .int .i64 2, .int .u32 1, .int .u32 0, .bool false, .int .i64 0, .slice none 0 0, .int .i64 1, .int .i64 0, .int .i64 1, .int .u32 1, .int .u32 1, .bool false, .int .i64 0, .slice (some ⟨p, 0, none⟩) 1 1, .int .i64 2, .int .i64 0, .int .i64 2, .int .u32 1, .int .u32 1, .bool false, .int .i64 0, .slice (some ⟨p, 0, none⟩) 1 1, .int .i64 8, .int .i64 0, .int .i64 2, .int .u32 0, .int .u32 0, .bool true, .int .i64 0, .slice (some ⟨p, 0, none⟩) 1 1]) : FRow W (some ⟨g, 0, none⟩) 4 awF ∧ FRow W (some ⟨g, 16, none⟩) 2 awG := by
  subst hc
  have cl := fun j => cell_of_row W g j _ _ _ hg
  have R1 : Row8 W (some ⟨p, 0, none⟩) 1 1 (fun _ => 5) := by
    refine ⟨fun _ _ => by omega, (fun h => by cases h), fun x hx i hi => ?_, Nat.le_refl _⟩
    cases hx
    obtain rfl : i = 0 := by omega
    exact cell_of_row W p 0 _ _ _ hp
  have R0 : Row8 W none 0 0 (fun _ => 0) := ⟨fun _ h => by omega, fun _ => ⟨rfl, rfl⟩, (fun x hx => by cases hx), Nat.le_refl _⟩
  constructor
  · intro i hi
    have : i = 0 ∨ i = 1 ∨ i = 2 ∨ i = 3 := by omega
    rcases this with rfl | rfl | rfl | rfl
    · exact ⟨g, 0, none, 0, rfl, cl 0, cl 1, cl 2, cl 3, cl 4, cl 5, cl 6, cl 7, R0⟩
    · exact ⟨g, 0, some ⟨p, 0, none⟩, 1, rfl, cl 8, cl 9, cl 10, cl 11, cl 12, cl 13, cl 14, cl 15, R1⟩
    · exact ⟨g, 0, some ⟨p, 0, none⟩, 1, rfl, cl 16, cl 17, cl 18, cl 19, cl 20, cl 21, cl 22, cl 23, R1⟩
    · exact ⟨g, 0, some ⟨p, 0, none⟩, 1, rfl, cl 24, cl 25, cl 26, cl 27, cl 28, cl 29, cl 30, cl 31, R1⟩
  · intro i hi
    have : i = 0 ∨ i = 1 := by omega
    rcases this with rfl | rfl
    · exact ⟨g, 16, some ⟨p, 0, none⟩, 1, rfl, cl 16, cl 17, cl 18, cl 19, cl 20, cl 21, cl 22, cl 23, R1⟩
    · exact ⟨g, 16, some ⟨p, 0, none⟩, 1, rfl, cl 24, cl 25, cl 26, cl 27, cl 28, cl 29, cl 30, cl 31, R1⟩
set_option maxHeartbeats 4000000 in
theorem awake18 (w : World) : Calls Try.prog 7 #[] w fun r w' => r = .returned (.bool true) ∧ Below w.heap.size w w' := by
  have hL := fun wx => glone wx
  go_enter Try.func7, Try.ntmps7
  go_wp2_with fail
  refine (hL _).mono ?_
  rintro r w1 ⟨a0, a1, rfl, h1⟩
  go_wp2_with fail
  obtain ⟨W, hW⟩ : ∃ W : World, (((w1.alloc (.cells #[.slice a0 1 1, .slice a1 1 1, .int .u32 50] 25)).alloc (.cells #[.int .u8 5] 5)).alloc (.cells #[.int .i64 3, .int .i64 0, .int .i64 2, .int .u32 1, .int .u32 0, .bool false, .int .i64 0, .slice none 0 0, .int .i64 1, .int .i64 0, .int .i64 1, .int .u32 1, .int .u32 1, .bool false, .int .i64 0, .slice (some ⟨w1.heap.size + 1, 0, none⟩) 1 1, .int .i64 2, .int .i64 0, .int .i64 2, .int .u32 1, .int .u32 1, .bool false, .int .i64 0, .slice (some ⟨w1.heap.size + 1, 0, none⟩) 1 1, .int .i64 8, .int .i64 0, .int .i64 2, .int .u32 0, .int .u32 0, .bool true, .int .i64 0, .slice (some ⟨w1.heap.size + 1, 0, none⟩) 1 1] 43)) = W := ⟨_, rfl⟩
  rw [hW]
  have z0 := heap_alloc_new w1 (.cells #[.slice a0 1 1, .slice a1 1 1, .int .u32 50] 25)
  have z1 := heap_alloc_new (w1.alloc (.cells #[.slice a0 1 1, .slice a1 1 1, .int .u32 50] 25)) (.cells #[.int .u8 5] 5)
  have z2 := heap_alloc_new ((w1.alloc (.cells #[.slice a0 1 1, .slice a1 1 1, .int .u32 50] 25)).alloc (.cells #[.int .u8 5] 5)) (.cells #[.int .i64 3, .int .i64 0, .int .i64 2, .int .u32 1, .int .u32 0, .bool false, .int .i64 0, .slice none 0 0, .int .i64 1, .int .i64 0, .int .i64 1, .int .u32 1, .int .u32 1, .bool false, .int .i64 0, .slice (some ⟨w1.heap.size + 1, 0, none⟩) 1 1, .int .i64 2, .int .i64 0, .int .i64 2, .int .u32 1, .int .u32 1, .bool false, .int .i64 0, .slice (some ⟨w1.heap.size + 1, 0, none⟩) 1 1, .int .i64 8, .int .i64 0, .int .i64 2, .int .u32 0, .int .u32 0, .bool true, .int .i64 0, .slice (some ⟨w1.heap.size + 1, 0, none⟩) 1 1] 43)
  simp only [World.size_alloc] at z1 z2
  have b1 : Below w1.heap.size w1 W := by
    rw [← hW]
    exact belowG (belowG (belowG (Below.refl _ _) _) _) _
  have e0 : W.heap[w1.heap.size]? = some (.cells #[.slice a0 1 1, .slice a1 1 1, .int .u32 50] 25 (0, 0)) := by
    rw [← hW]
    exact ((belowG (belowG (Below.refl _ _) _) _).block _ (by simp)).trans z0
  have e1 : W.heap[w1.heap.size + 1]? = some (.cells #[.int .u8 5] 5 (0, 0)) := by
    rw [← hW]
    exact ((belowG (Below.refl _ _) _).block _ (by simp)).trans z1
  have e2 : W.heap[w1.heap.size + 1 + 1]? = some (.cells #[.int .i64 3, .int .i64 0, .int .i64 2, .int .u32 1, .int .u32 0, .bool false, .int .i64 0, .slice none 0 0, .int .i64 1, .int .i64 0, .int .i64 1, .int .u32 1, .int .u32 1, .bool false, .int .i64 0, .slice (some ⟨w1.heap.size + 1, 0, none⟩) 1 1, .int .i64 2, .int .i64 0, .int .i64 2, .int .u32 1, .int .u32 1, .bool false, .int .i64 0, .slice (some ⟨w1.heap.size + 1, 0, none⟩) 1 1, .int .i64 8, .int .i64 0, .int .i64 2, .int .u32 0, .int .u32 0, .bool true, .int .i64 0, .slice (some ⟨w1.heap.size + 1, 0, none⟩) 1 1] 43 (0, 0)) := by
    rw [← hW]
    exact z2
  obtain ⟨f1, f2⟩ := aw_row e2 e1 rfl
  obtain ⟨p0, p1, bw⟩ := h1.out
  have q0 := p0.below b1
  have q1 := p1.below b1
  have hC1 : ∀ wx, Below W.heap.size W wx → Calls Try.prog 15 #[.agg #[.slice a0 1 1, .slice a1 1 1, .int .u32 (50 : Nat)], .slice (some ⟨w1.heap.size + 1 + 1, 0, none⟩) 4 4] wx fun r w' => ∃ x, r = .returned x ∧ (x = .agg #[.int .i64 0, .int .i64 0] ∧ Below W.heap.size W w') := fun wx bx =>
    (gcheck a0 1 1 (fun _ => pgS) a1 1 1 (fun _ => pgS) 50 _ 4 4 awF wx (q0.below bx) (q1.below bx) 1 rfl (by omega) (f1.below bx) (fun i _ => awF_ok i) (by omega)).mono fun _ _ ⟨e, b⟩ => ⟨_, e, (by show Value.agg #[.int .i64 (sees awJ awF 4).r, .int .i64 (sees awJ awF 4).a] = _; rw [aw_good.1, aw_good.2]), bx.trans (b.mono bx.size)⟩
  have hC2 : ∀ wx, Below W.heap.size W wx → Calls Try.prog 15 #[.agg #[.slice a0 1 1, .slice a1 1 1, .int .u32 (50 : Nat)], .slice (some ⟨w1.heap.size + 1 + 1, 16, none⟩) 2 2] wx fun r w' => ∃ x, r = .returned x ∧ (x = .agg #[.int .i64 2, .int .i64 0] ∧ Below W.heap.size W w') := fun wx bx =>
    (gcheck a0 1 1 (fun _ => pgS) a1 1 1 (fun _ => pgS) 50 _ 2 2 awG wx (q0.below bx) (q1.below bx) 1 rfl (by omega) (f2.below bx) (fun i _ => awF_ok (i + 2)) (by omega)).mono fun _ _ ⟨e, b⟩ => ⟨_, e, (by show Value.agg #[.int .i64 (sees awJ awG 2).r, .int .i64 (sees awJ awG 2).a] = _; rw [aw_bad.1, aw_bad.2]), bx.trans (b.mono bx.size)⟩
  have hx : ∀ wx, Below W.heap.size W wx → wx.cell? ⟨w1.heap.size, 0, none⟩ = some (.slice a0 1 1) ∧ wx.cell? ⟨w1.heap.size, 1, none⟩ = some (.slice a1 1 1) ∧ wx.cell? ⟨w1.heap.size, 2, none⟩ = some (.int .u32 50) := fun wx bx => ⟨cell_belowJ (cell_of_row W _ 0 _ _ _ e0) bx, cell_belowJ (cell_of_row W _ 1 _ _ _ e0) bx, cell_belowJ (cell_of_row W _ 2 _ _ _ e0) bx⟩
  obtain ⟨x0, x1, x2⟩ := hx W (Below.refl _ _)
  have HB : Hid (_) := bw.trans (b1.mono bw.size)
  clear f1 f2 p0 p1 q0 q1 e0 e1 e2 hW h1 b1 bw hL z0 z1 z2
  go_region_law (first
    | (refine step_callN 15 #[.tmp 14, .tmp 15] #[25, 26] rfl (by kernel_rfl) #[.agg #[.slice a0 1 1, .slice a1 1 1, .int .u32 50], .slice (some ⟨w1.heap.size + 1 + 1, 0, none⟩) 4 4] (by kernel_rfl) (hC1 _ (by repeat (first | with_reducible assumption | with_reducible exact Below.refl _ _ | with_reducible refine belowN ?_ _ | with_reducible refine Below.drew ?_ | with_reducible refine belowG ?_ _))) ?_; rintro x w4 ⟨rfl, b4⟩; obtain ⟨y0, y1, y2⟩ := hx _ b4)
    | (refine step_callN 15 #[.tmp 20, .tmp 22] #[25, 26] rfl (by kernel_rfl) #[.agg #[.slice a0 1 1, .slice a1 1 1, .int .u32 50], .slice (some ⟨w1.heap.size + 1 + 1, 16, none⟩) 2 2] (by kernel_rfl) (hC2 _ (by repeat (first | with_reducible assumption | with_reducible exact Below.refl _ _ | with_reducible refine belowN ?_ _ | with_reducible refine Below.drew ?_ | with_reducible refine belowG ?_ _))) ?_; rintro x w5 ⟨rfl, b5⟩))
  all_goals
    have b6 := HB.out.trans (b5.mono HB.out.size)
    clear hC1 hC2 hx
    go_wp2_with fail
    go_ret
    first
    | exact ⟨rfl, (by repeat (first | with_reducible assumption | with_reducible exact Below.refl _ _ | with_reducible refine belowN ?_ _ | with_reducible refine Below.drew ?_ | with_reducible refine belowG ?_ _))⟩
    | exact (by repeat (first | with_reducible assumption | with_reducible exact Below.refl _ _ | with_reducible refine belowN ?_ _ | with_reducible refine Below.drew ?_ | with_reducible refine belowG ?_ _))
    | trace_state
end Go.Proofs.Ytaeamogagaaodaa
