/- Layer 5: one call, on both meters: Note. -/
import Derived.Test.YtejjhenkhleibaaMstep4
namespace Go.Proofs.Ytejjhenkhleibaa
open Go.RowKit

set_option maxRecDepth 100000 in
set_option maxHeartbeats 2000000 in
theorem step_note (M b v : Nat) (wh a b' i j s n : Int) (w : World) (h : SyE M w b v) :
    Calls Try.prog 11 #[.pointer (some ⟨b, 0, none⟩), .pointer (some ⟨v, 0, none⟩), .agg (opV 8 wh a b' i j s n)] w fun e w' => e = .returned (.bool true) ∧ Stepped M w b v w' := by
  obtain ⟨t, p, r, q, f, o, c, h⟩ := h
  have hO := Off.alloc [] w (opO 8 wh a b' i j s n)
  have hA := h.off hO (by simp) (by simp) (by simp)
  have oA : OpAt (w.alloc (opO 8 wh a b' i j s n)) w.heap.size 8 wh a b' i j s n := ⟨heap_alloc_new w _⟩
  have hvM := h.vM
  have hle := h.le
  clear h
  obtain ⟨y5, y6, y7, y8⟩ := hA.rm.c5
  have y9 := hA.rm.c9
  obtain ⟨⟨i1, j1, s1, n1⟩, hz⟩ : ∃ z, c.getD Z4 = z := ⟨_, rfl⟩
  obtain ⟨u, hu⟩ : ∃ u, c.isSome = u := ⟨_, rfl⟩
  rw [hz] at y5 y6 y7 y8
  rw [hu] at y9
  have HA : Hid (_) := And.intro hA (And.intro oA hO)
  have HZ : Hid (_) := And.intro hz hu
  clear hA oA hO hz hu
  go_enter Try.func11, Try.ntmps11
  go_wp2_with fail
  generalize w.alloc (opO 8 wh a b' i j s n) = wa at *
  generalize w.heap.size = g at *
  have hvl : v < wa.heap.size := HA.out.1.rm.lt
  have q5 : ∀ ob, (wa.alloc ob).cell? ⟨v, 5, none⟩ = some (.int .i64 i1) := fun ob => (World.cell?_of_block (w := wa) (heap_alloc_old wa ob hvl)).trans y5
  have q6 : ∀ ob, (wa.alloc ob).cell? ⟨v, 6, none⟩ = some (.int .i64 j1) := fun ob => (World.cell?_of_block (w := wa) (heap_alloc_old wa ob hvl)).trans y6
  have q7 : ∀ ob, (wa.alloc ob).cell? ⟨v, 7, none⟩ = some (.int .u32 s1) := fun ob => (World.cell?_of_block (w := wa) (heap_alloc_old wa ob hvl)).trans y7
  have q8 : ∀ ob, (wa.alloc ob).cell? ⟨v, 8, none⟩ = some (.int .u32 n1) := fun ob => (World.cell?_of_block (w := wa) (heap_alloc_old wa ob hvl)).trans y8
  have q9 : ∀ ob, (wa.alloc ob).cell? ⟨v, 9, none⟩ = some (.bool u) := fun ob => (World.cell?_of_block (w := wa) (heap_alloc_old wa ob hvl)).trans y9
  go_region
  have hOb : Off [] wa (wa.alloc (.cells #[.int .i64 i1, .int .i64 j1, .int .u32 s1, .int .u32 n1] 31)).drew := (Off.alloc [] wa _).trans (Off.drew [] _)
  have hB := HA.out.1.off hOb (by simp) (by simp) (by simp)
  have oB := HA.out.2.1.off hOb (by simp)
  have hO := HA.out.2.2.trans hOb
  have z16 : (wa.alloc (.cells #[.int .i64 i1, .int .i64 j1, .int .u32 s1, .int .u32 n1] 31)).drew.heap[wa.heap.size]? = some (.cells #[.int .i64 i1, .int .i64 j1, .int .u32 s1, .int .u32 n1] 31) := heap_alloc_new wa _
  have hga : g < wa.heap.size := HA.out.2.1.lt
  clear HA q5 q6 q7 q8 q9 y5 y6 y7 y8 y9 hOb
  generalize (wa.alloc (.cells #[.int .i64 i1, .int .i64 j1, .int .u32 s1, .int .u32 n1] 31)).drew = wb at *
  have hMa : M ≤ wa.heap.size := by omega
  generalize wa.heap.size = ga at *
  have kv : Off [v] wb (((((wb.setCell ⟨v, 5, none⟩ (.int .i64 i)).setCell ⟨v, 6, none⟩ (.int .i64 j)).setCell ⟨v, 7, none⟩ (.int .u32 s)).setCell ⟨v, 8, none⟩ (.int .u32 n)).setCell ⟨v, 9, none⟩ (.bool true)) := ((((Off.setCell v 5 _ _).trans (Off.setCell v 6 _ _)).trans (Off.setCell v 7 _ _)).trans (Off.setCell v 8 _ _)).trans (Off.setCell v 9 _ _)
  have rC := hB.rm.s59 i j s n
  have mC := hB.met.off kv (by simpa using hB.ne)
  have pC := hB.pk.off kv (by simpa using hvM)
  have cC := hB.rc.off kv (by simpa using hvM)
  have oC := oB.off kv (by simp; omega)
  have zC := (kv.block ga (Array.getElem?_eq_some_iff.1 z16).1 (by simp; omega)).trans z16
  have hN := note_any M t b p r c f o i j s n _ mC cC (Nat.le_trans hB.le kv.size) hB.bM
  rw [HZ.out.1, HZ.out.2] at hN
  simp only [RV] at hN
  obtain ⟨y5, y6, y7, y8⟩ := hB.rm.c5
  have y9 := hB.rm.c9
  have f5 := hB.rm.fz
  obtain ⟨_, _, _, _, c4, c5, c6, c7⟩ := oB.cells
  obtain ⟨_, _, _, _, d4, d5, d6, d7⟩ := oC.cells
  have HB : Hid (_) := And.intro hB (And.intro hO (And.intro kv (And.intro rC (And.intro pC zC))))
  clear hB oB hO kv rC mC pC cC oC zC z16 HZ
  go_wp2_with fail
  generalize (((((wb.setCell ⟨v, 5, none⟩ (.int .i64 i)).setCell ⟨v, 6, none⟩ (.int .i64 j)).setCell ⟨v, 7, none⟩ (.int .u32 s)).setCell ⟨v, 8, none⟩ (.int .u32 n)).setCell ⟨v, 9, none⟩ (.bool true)) = wc at *
  refine hN.mono ?_
  rintro e w2 ⟨rfl, k2, r', m2, rc2⟩
  have hB := HB.out.1
  have kv := HB.out.2.2.1
  have z2 := (k2.block ga (Array.getElem?_eq_some_iff.1 HB.out.2.2.2.2.2).1 (by have := hB.bM; simp; omega)).trans HB.out.2.2.2.2.2
  have r2 := HB.out.2.2.2.1.off k2 (by simpa using hB.ne.symm)
  have p2 := HB.out.2.2.2.2.1.off k2 (by simpa using hB.bM)
  have k3 := Off.alloc [] w2 (.cells #[.int .i64 i1, .int .i64 j1, .int .u32 s1, .int .u32 n1] 31)
  have kk : Off [b, v] wb (w2.alloc (.cells #[.int .i64 i1, .int .i64 j1, .int .u32 s1, .int .u32 n1] 31)) := ((off_v kv).trans (off_b k2)).trans (off_n k3)
  have hend : Stepped M w b v (w2.alloc (.cells #[.int .i64 i1, .int .i64 j1, .int .u32 s1, .int .u32 n1] 31)) := hB.step HB.out.2.1 kk (m2.off k3 (by simp)) (p2.off k3 (by simp)) (rc2.off k3 (by simp)) (r2.off k3 (by simp)) hB.tlt
  obtain ⟨a0, a1, a2, a3, _⟩ := four_cells ((heap_alloc_old w2 (.cells #[.int .i64 i1, .int .i64 j1, .int .u32 s1, .int .u32 n1] 31) (Array.getElem?_eq_some_iff.1 z2).1).trans z2)
  clear hN HB hB kv z2 r2 p2 k3 kk k2 m2 rc2 c4 c5 c6 c7 d4 d5 d6 d7 y5 y6 y7 y8 y9 f5
  go_wp2_with fail
  go_ret
  exact ⟨by first | rfl | simp | kernel_rfl, hend⟩

end Go.Proofs.Ytejjhenkhleibaa
