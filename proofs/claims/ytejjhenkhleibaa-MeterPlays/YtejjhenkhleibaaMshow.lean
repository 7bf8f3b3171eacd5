/- Layer 5: all that can be seen of a meter, beside the document's. -/
import Derived.Test.YtejjhenkhleibaaMref
namespace Go.Proofs.Ytejjhenkhleibaa
open Go.RowKit

set_option maxHeartbeats 2000000 in
theorem shows_any (M : Nat) (b v t : Nat) (p r : Option Addr) (q : Option Int) (f o : Int) (c : Option (Int × Int × Int × Int)) (w : World) (h : Sy M w b v t p r q f o c) :
    Calls Try.prog 10 #[.pointer (some ⟨b, 0, none⟩), .pointer (some ⟨v, 0, none⟩)] w fun e w' => e = .returned (.bool true) ∧ Below w.heap.size w w' := by
  have qP := peak_any M _ _ _ _ _ _ _ w h.met h.pk
  have qL := last_any M _ _ _ _ _ _ _ w h.met h.rc
  have m1 : ∀ w1, Below w.heap.size w w1 → Met w1 b t p f o r := fun w1 k => h.met.off (Off.of_below (l := []) k) (by simp)
  have r1 : ∀ w1, Below w.heap.size w w1 → RM w1 v t q f (o != 0) c := fun w1 k => h.rm.off (Off.of_below (l := []) k) (by simp)
  have c5 := fun w1 k => (r1 w1 k).c5
  have c0 := fun w1 k => (r1 w1 k).c0
  have c1 := fun w1 k => (r1 w1 k).c1
  have c2 := fun w1 k => (r1 w1 k).c2
  have c3 := fun w1 k => (r1 w1 k).c3
  have c4 := fun w1 k => (r1 w1 k).c4
  have c9 := fun w1 k => (r1 w1 k).c9
  clear h r1
  generalize q.getD 0 = x at *
  generalize q.isSome = y at *
  generalize c.getD Z4 = z at *
  generalize c.isSome = u at *
  obtain ⟨i, j, s, n⟩ := z
  simp only [RV] at qL c5
  go_enter Try.func10, Try.ntmps10
  go_wp2_with (go_at_call 15; refine qP.mono ?_; rintro e w' ⟨rfl, hw⟩; rw [hw]; clear hw)
  refine qL.mono ?_
  rintro e w1 ⟨rfl, hb1⟩
  have hb2 : Below w.heap.size w (w1.alloc (.cells #[.int .i64 i, .int .i64 j, .int .u32 s, .int .u32 n] 31)) := hb1.alloc hb1.size _
  obtain ⟨x0, x1, x2, x3, _⟩ := four_cells (heap_alloc_new w1 (.cells #[.int .i64 i, .int .i64 j, .int .u32 s, .int .u32 n] 31))
  have m2 := m1 _ hb2
  obtain ⟨y5, y6, y7, y8⟩ := c5 _ hb2
  have y0 := c0 _ hb2
  have y1 := c1 _ hb2
  have y2 := c2 _ hb2
  have y3 := c3 _ hb2
  have y4 := c4 _ hb2
  have y9 := c9 _ hb2
  clear m1 c0 c1 c2 c3 c4 c5 c9 qP qL hb1
  go_wp2_with fail
  generalize w1.alloc (.cells #[.int .i64 i, .int .i64 j, .int .u32 s, .int .u32 n] 31) = w2 at *
  generalize w1.heap.size = g at *
  have qT : ∀ n, _ := fun n => total_any _ _ _ _ _ _ (w2.drewN n) (m2.off (Off.drewN [] w2 n) (by simp))
  have qF : ∀ n, _ := fun n => flags_any _ _ _ _ _ _ (w2.drewN n) (m2.off (Off.drewN [] w2 n) (by simp))
  have qO : ∀ n, _ := fun n => on_any _ _ _ _ _ _ (w2.drewN n) (m2.off (Off.drewN [] w2 n) (by simp))
  clear m2
  generalize (o != 0) = on at *
  go_quiet (first | (go_at_call 13; exact Calls.quiet_of_same (qT _)) | (go_at_call 18; exact Calls.quiet_of_same (qF _)) | (go_at_call 24; exact Calls.quiet_of_same (qO _)))
  go_wp2_with fail
  go_ret
  exact ⟨by simp, (Off.drewN [] w2 _).below hb2 (by simp) hb2.size⟩

end Go.Proofs.Ytejjhenkhleibaa
