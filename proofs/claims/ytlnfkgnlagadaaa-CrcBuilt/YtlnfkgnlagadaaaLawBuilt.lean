/- The walk of the statement CrcBuilt: built at the first use, each by itself; and nil. -/
import Derived.Test.YtlnfkgnlagadaaaSliced
import Derived.Test.YtlnfkgnlagadaaaLaw02
namespace Go.Proofs.Ytlnfkgnlagadaaa
open Go.RowKit
set_option maxHeartbeats 1000000 in
theorem crcBuilt_long (a0 : Option Addr) (len0 cap0 : Nat) (w : World) (hl : len0 ≤ 9223372036854775807) (h : 4000 < len0) :
    Calls Try.prog 5 #[.slice a0 len0 cap0] w fun e w' => e = .returned (.bool true) ∧ Below w.heap.size w w' := by
  go_enter Try.func5, Try.ntmps5
  go_wp2_with (go_at_call 9; refine (awake2 _).mono ?_; rintro e w' ⟨rfl, hb⟩)
  go_ret
  exact ⟨rfl, hb⟩
set_option maxRecDepth 100000 in
set_option maxHeartbeats 2000000 in
theorem crcBuilt_any (a0 : Option Addr) (len0 cap0 : Nat) (bs : Nat → Nat) (w : World) (hr : Row8 w a0 len0 cap0 bs) (hl : len0 ≤ 4000) :
    Calls Try.prog 5 #[.slice a0 len0 cap0] w fun e w' => e = .returned (.bool true) ∧ Below w.heap.size w w' := by
  go_enter Try.func5, Try.ntmps5
  go_wp2_with fail
  refine (awake2 _).mono ?_
  rintro e w1 ⟨rfl, hbel1⟩
  have hsz1 := hbel1.size
  go_wp2_with fail
  refine (newTable_any w1).mono ?_
  rintro e w2 ⟨rfl, hw2⟩
  have e1 := newTable_eng w1
  rw [← hw2] at e1
  have hb2 : Below w1.heap.size w1 w2 := by rw [hw2]; exact (Below.refl _ _).alloc (Nat.le_refl _) _
  have hsz2 : w1.heap.size < w2.heap.size := by rw [hw2]; simp
  clear hw2
  go_wp2_with fail
  refine (newSliced_any w2).mono ?_
  rintro e w3 ⟨rfl, hw3⟩
  have e2 := newSliced_eng w2
  rw [← hw3] at e2
  have hb3 : Below w2.heap.size w2 w3 := by rw [hw3]; exact (Below.refl _ _).alloc (Nat.le_refl _) _
  have hsz3 : w2.heap.size < w3.heap.size := by rw [hw3]; simp
  clear hw3
  go_wp2_with fail
  refine (newTable_any w3).mono ?_
  rintro e w4 ⟨rfl, hw4⟩
  have e3 := newTable_eng w3
  rw [← hw4] at e3
  have hb4 : Below w3.heap.size w3 w4 := by rw [hw4]; exact (Below.refl _ _).alloc (Nat.le_refl _) _
  clear hw4
  have e2' := e2.below hb4
  have e1' := (e1.below hb3).below hb4
  have hbel4 : Below w.heap.size w w4 := below_all (below_all (below_all hbel1 hsz1 hb2) (by omega) hb3) (by omega) hb4
  have hB1 : w.heap.size ≤ w1.heap.size := hsz1
  have hB2 : w.heap.size ≤ w2.heap.size := by omega
  have hn12 : w1.heap.size ≠ w2.heap.size := by omega
  have hn13 : w1.heap.size ≠ w3.heap.size := by omega
  have hn23 : w2.heap.size ≠ w3.heap.size := by omega
  have hs4 := hbel4.size
  clear hb2 hb3 hb4 e1 e2 hbel1 hsz1 hsz2 hsz3
  generalize w1.heap.size = g1 at *
  generalize w2.heap.size = g2 at *
  generalize w3.heap.size = g3 at *
  have q1 := tbuilt_any g1 _ _ _ _ _ _ w4 e1'
  have q2 := sbuilt_any g2 _ _ _ _ _ _ w4 e2'
  have q3 := tbuilt_any g3 _ _ _ _ _ _ w4 e3
  go_wp2_with (first | (go_at_call_of 18 g1; refine q1.mono ?_; rintro e w' ⟨rfl, rfl⟩) | (go_at_call_of 19 g2; refine q2.mono ?_; rintro e w' ⟨rfl, rfl⟩) | (go_at_call_of 18 g3; refine q3.mono ?_; rintro e w' ⟨rfl, rfl⟩))
  refine (tsum_first w w' a0 len0 cap0 bs g1 _ hr (by omega) hbel4 hB1 e1').mono ?_
  rintro e w5 ⟨rfl, k5, c5, t1⟩
  have t2 := e2'.keep k5 hn12.symm
  have t3 := e3.keep k5 hn13.symm
  have hbel5 := k5.below hbel4 hB1 hs4
  have hs5 := hbel5.size
  clear q1 q2 q3 e1' e2' e3 k5 hbel4 hs4
  have q1 := tbuilt_any g1 _ _ _ _ _ _ w5 t1
  have q2 := sbuilt_any g2 _ _ _ _ _ _ w5 t2
  have q3 := tbuilt_any g3 _ _ _ _ _ _ w5 t3
  go_wp2_with (first | (go_at_call_of 18 g1; refine q1.mono ?_; rintro e w' ⟨rfl, rfl⟩) | (go_at_call_of 19 g2; refine q2.mono ?_; rintro e w' ⟨rfl, rfl⟩) | (go_at_call_of 18 g3; refine q3.mono ?_; rintro e w' ⟨rfl, rfl⟩))
  refine (ssum_first w _ a0 len0 cap0 bs g2 _ hr (by omega) hbel5 hB2 t2).mono ?_
  rintro e w6 ⟨rfl, k6, c6, u2⟩
  have u1 := t1.keep k6 hn12
  have u3 := t3.keep k6 hn23.symm
  have hbel6 := k6.below hbel5 hB2 hs5
  clear q1 q2 q3 t1 t2 t3 k6 hbel5 hs5
  have q1 := tbuilt_any g1 _ _ _ _ _ _ w6 u1
  have q2 := sbuilt_any g2 _ _ _ _ _ _ w6 u2
  have q3 := tbuilt_any g3 _ _ _ _ _ _ w6 u3
  go_wp2_with (first | (go_at_call_of 18 g1; refine q1.mono ?_; rintro e w' ⟨rfl, rfl⟩) | (go_at_call_of 19 g2; refine q2.mono ?_; rintro e w' ⟨rfl, rfl⟩) | (go_at_call_of 18 g3; refine q3.mono ?_; rintro e w' ⟨rfl, rfl⟩) | (go_at_call 13; refine (tsum_nil _ _ _ _).mono ?_; rintro e w' ⟨rfl, rfl⟩) | (go_at_call 14; refine (ssum_nil _ _ _ _).mono ?_; rintro e w' ⟨rfl, rfl⟩) | (go_at_call 18; refine (tbuilt_nil _).mono ?_; rintro e w' ⟨rfl, rfl⟩) | (go_at_call 19; refine (sbuilt_nil _).mono ?_; rintro e w' ⟨rfl, rfl⟩))
  go_ret
  exact ⟨rfl, hbel6⟩
theorem crcBuilt_walk (a0 : Option Addr) (len0 cap0 : Nat) (z0 : List Int) (w : World) (w0 : BRow .u8 w a0 len0 cap0 z0) :
    Calls Try.prog 5 #[.slice a0 len0 cap0] w fun e w' => e = .returned (.bool true) ∧ Below w.heap.size w w' := by
  by_cases h : len0 ≤ 4000
  · exact crcBuilt_any a0 len0 cap0 _ w w0.row8 h
  · exact crcBuilt_long a0 len0 cap0 w w0.len_le (by omega)

end Go.Proofs.Ytlnfkgnlagadaaa
