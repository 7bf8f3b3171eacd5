/- Last and Records. -/
import Derived.Test.YteaekoacongbcaaDn2
namespace Go.Proofs.Yteaekoacongbcaa
open Go.RowKit Go.Maps

def zR : Obj := .cells #[.int .i64 0, .int .i64 0, .int .u32 0, .int .u32 0] 32
theorem cells4 {w : World} {c : Nat} {a b d e : Value} {t : TypeId} (h : w.heap[c]? = some (.cells #[a, b, d, e] t (0, 0))) :
    w.cell? ⟨c, 0, none⟩ = some a ∧ w.cell? ⟨c, 1, none⟩ = some b ∧ w.cell? ⟨c, 2, none⟩ = some d ∧ w.cell? ⟨c, 3, none⟩ = some e ∧ ∀ n, w.frozen? ⟨c, n, none⟩ = false :=
  ⟨cell_of_row w c 0 _ _ _ h, cell_of_row w c 1 _ _ _ h, cell_of_row w c 2 _ _ _ h, cell_of_row w c 3 _ _ _ h, fun n => frozen_of_row w c n _ _ h⟩
theorem below4 {B g : Nat} {w0 w : World} (h : Below B w0 w) (hg : B ≤ g) (a b c d : Value) : Below B w0 ((((w.setCell ⟨g, 0, none⟩ a).setCell ⟨g, 1, none⟩ b).setCell ⟨g, 2, none⟩ c).setCell ⟨g, 3, none⟩ d) :=
  (((h.setCell hg a).setCell hg b).setCell hg c).setCell hg d
set_option maxHeartbeats 4000000 in
set_option maxRecDepth 100000 in
theorem dlast_some (b : Nat) (U : List Nat) (L : List R4) (w : World) (h : DG w b U L) (hn : L.length < 1000000) (hl : 0 < L.length) :
    Calls Try.prog 11 #[.pointer (some ⟨b, 0, none⟩)] w fun e w' => e = .returned (.tuple #[.agg #[.int .i64 (L[L.length - 1]).1, .int .i64 (L[L.length - 1]).2.1, .int .u32 (L[L.length - 1]).2.2.1, .int .u32 (L[L.length - 1]).2.2.2], .bool true]) ∧ Below w.heap.size w w' := by
  have h1 : DG (w.alloc zR) b U L := h.off (Off.alloc [] w _) (by simp)
  have ht := dtotal_any b U L (w.alloc zR) h1 hn
  obtain ⟨mA, mb, nn, D, mt, h2⟩ := h1
  obtain ⟨r0, r1, r2, r3⟩ := h2.blk.rec (L.length - 1) (by omega) (by omega)
  have hp := fun w => placeOf_any (L.length - 1) ((L.length - 1) % 16) w rfl (by omega)
  rw [show L.length - 1 + 1 = L.length from by omega] at hp
  obtain ⟨c0, c1, c2, c3, hz⟩ := cells4 (heap_alloc_new w zR)
  generalize L[L.length - 1] = x at *
  obtain ⟨x0, x1, x2, x3⟩ := x
  have p16 : (((L.length - 1) % 16 : Nat) : Int) < 16 := by omega
  generalize (L.length - 1) % 16 = p at *
  have hne : ((L.length : Nat) : Int) ≠ 0 := by omega
  generalize L.length = N at *
  clear h2 h hl hn
  simp only at r0 r1 r2 r3 ⊢
  have hz0 := hz 0
  have hz1 := hz 1
  have hz2 := hz 2
  have hz3 := hz 3
  go_enter Try.func11, Try.ntmps11
  go_wp2_with fail
  refine ht.mono ?_
  rintro e w' ⟨rfl, rfl⟩
  go_wp2_with fail
  go_region_with (first | (go_at_call 26; refine (hp _).mono ?_; rintro e w'' ⟨rfl, hw⟩; have hw := hw.symm; subst hw))
  go_wp2_with fail
  refine bodyPost_ret (v := .tuple #[.agg #[.int .i64 x0, .int .i64 x1, .int .u32 x2, .int .u32 x3], .bool true]) (by simp [results, Try.results11, go_sem, c0, c1, c2, c3]) rfl ⟨rfl, ?_⟩
  exact Below.drew (below4 ((Below.refl _ _).alloc (Nat.le_refl _) _) (Nat.le_refl _) _ _ _ _)
set_option maxRecDepth 100000 in
theorem dlast_none (o : Value) (w : World) (ht : Calls Try.prog 12 #[o] (w.alloc zR) fun e w' => e = .returned (.int .i64 0) ∧ w' = w.alloc zR) :
    Calls Try.prog 11 #[o] w fun e w' => e = .returned (.tuple #[.agg #[.int .i64 0, .int .i64 0, .int .u32 0, .int .u32 0], .bool false]) ∧ Below w.heap.size w w' := by
  obtain ⟨c0, c1, c2, c3, hz⟩ := cells4 (heap_alloc_new w zR)
  have hz0 := hz 0
  have hz1 := hz 1
  have hz2 := hz 2
  have hz3 := hz 3
  go_enter Try.func11, Try.ntmps11
  go_wp2_with fail
  refine ht.mono ?_
  rintro e w' ⟨rfl, rfl⟩
  go_wp2_with fail
  refine bodyPost_ret (v := .tuple #[.agg #[.int .i64 0, .int .i64 0, .int .u32 0, .int .u32 0], .bool false]) (by simp [results, Try.results11, go_sem, c0, c1, c2, c3]) rfl ⟨rfl, ?_⟩
  exact below4 ((Below.refl _ _).alloc (Nat.le_refl _) _) (Nat.le_refl _) _ _ _ _
theorem dlast_nil (w : World) : Calls Try.prog 11 #[.pointer none] w fun e w' => e = .returned (.tuple #[.agg #[.int .i64 0, .int .i64 0, .int .u32 0, .int .u32 0], .bool false]) ∧ Below w.heap.size w w' :=
  dlast_none _ w (dtotal_nil _)
theorem dlast_empty (b : Nat) (U : List Nat) (w : World) (h : DG w b U []) : Calls Try.prog 11 #[.pointer (some ⟨b, 0, none⟩)] w fun e w' => e = .returned (.tuple #[.agg #[.int .i64 0, .int .i64 0, .int .u32 0, .int .u32 0], .bool false]) ∧ Below w.heap.size w w' :=
  dlast_none _ w (dtotal_any b U [] _ (h.off (Off.alloc [] w _) (by simp)) (by simp))
end Go.Proofs.Yteaekoacongbcaa
