/- The walk of the statement CrcEngines: three engines, one check; asked twice. -/
import Derived.Test.YtlnfkgnlagadaaaSliced
import Derived.Test.YtlnfkgnlagadaaaLaw02
namespace Go.Proofs.Ytlnfkgnlagadaaa
open Go.RowKit
set_option maxHeartbeats 1000000 in
theorem crcEngines_long (a0 : Option Addr) (len0 cap0 : Nat) (a1 : Option Addr) (len1 cap1 : Nat) (w : World) (hl0 : len0 ≤ 9223372036854775807) (hl1 : len1 ≤ 9223372036854775807) (h : 4000 < len0 ∨ 4000 < len1) :
    Calls Try.prog 3 #[.slice a0 len0 cap0, .slice a1 len1 cap1] w fun e w' => e = .returned (.bool true) ∧ Below w.heap.size w w' := by
  by_cases h1 : 4000 < len0
  · clear h
    go_enter Try.func3, Try.ntmps3
    go_wp2_with (go_at_call 9; refine (awake2 _).mono ?_; rintro e w' ⟨rfl, hb⟩)
    go_ret
    exact ⟨rfl, hb⟩
  · have h2 : 4000 < len1 := by omega
    clear h
    go_enter Try.func3, Try.ntmps3
    go_wp2_with (go_at_call 9; refine (awake2 _).mono ?_; rintro e w' ⟨rfl, hb⟩)
    go_ret
    exact ⟨rfl, hb⟩
/-- What holds in every round. -/
structure Inv (w wr : World) (g1 g2 : Nat) : Prop where
  below : Below w.heap.size w wr
  tab : St wr g1 58 260 1
  sli : St wr g2 61 1028 4
set_option maxRecDepth 100000 in
set_option maxHeartbeats 4000000 in
theorem crcEngines_any (a0 : Option Addr) (len0 cap0 : Nat) (a1 : Option Addr) (len1 cap1 : Nat) (b0 b1 : Nat → Nat) (w : World) (r0 : Row8 w a0 len0 cap0 b0) (r1 : Row8 w a1 len1 cap1 b1) (hl0 : len0 ≤ 4000) (hl1 : len1 ≤ 4000) :
    Calls Try.prog 3 #[.slice a0 len0 cap0, .slice a1 len1 cap1] w fun e w' => e = .returned (.bool true) ∧ Below w.heap.size w w' := by
  go_enter Try.func3, Try.ntmps3
  go_wp2_with fail
  refine (awake2 _).mono ?_
  rintro e w1 ⟨rfl, hbel1⟩
  have hsz1 := hbel1.size
  go_wp2_with fail
  refine (newTable_any w1).mono ?_
  rintro e w2 ⟨rfl, hw2⟩
  have e1 := newTable_eng w1
  rw [← hw2] at e1
  have hb2 : Below w1.heap.size w1 w2 := by rw [hw2]; exact (Below.refl _ _).alloc (Nat.le_refl _) _
  have hsz2 : w1.heap.size < w2.heap.size := by rw [hw2]; simp
  clear hw2
  go_wp2_with fail
  refine (newSliced_any w2).mono ?_
  rintro e w3 ⟨rfl, hw3⟩
  have e2 := newSliced_eng w2
  rw [← hw3] at e2
  have hb3 : Below w2.heap.size w2 w3 := by rw [hw3]; exact (Below.refl _ _).alloc (Nat.le_refl _) _
  clear hw3
  have I3 : Inv w w3 w1.heap.size w2.heap.size := ⟨below_all (below_all hbel1 hsz1 hb2) (by omega) hb3, .inl ⟨_, e1.below hb3⟩, .inl ⟨_, e2⟩⟩
  have hB1 : w.heap.size ≤ w1.heap.size := hsz1
  have hB2 : w.heap.size ≤ w2.heap.size := by omega
  have hn12 : w1.heap.size ≠ w2.heap.size := by omega
  clear hb2 hb3 e1 e2 hbel1 hsz1 hsz2
  generalize w1.heap.size = g1 at *
  generalize w2.heap.size = g2 at *
  go_wp2_with fail
  go_loopw [4, 7, 9, 10, 11, 12, 13, 14, 39, 40, 41] (fun _ c _ _ _ _ _ _ _ _ _ wr => ∃ i, i ≤ 2 ∧ c = .int .i64 ((i : Nat) : Int) ∧ Inv w wr g1 g2) (fun _ c _ _ _ _ _ _ _ _ _ _ => 2 - (intOf c).toNat)
  case atStart => exact ⟨0, by omega, rfl, I3⟩
  case round =>
    clear I3
    obtain ⟨i, hi, rfl, I⟩ := hrel
    by_cases hlt : i < 2
    · have hd2 : decide ((i : Int) < 2) = true := by simp; omega
      go_wp2_with fail
      have hsr := I.below.size
      have hbA : Below wr.heap.size wr (wr.alloc (.cells #[.slice a0 len0 cap0, .slice a1 len1 cap1] 22)) := (Below.refl _ _).alloc (Nat.le_refl _) _
      have IA : Inv w (wr.alloc (.cells #[.slice a0 len0 cap0, .slice a1 len1 cap1] 22)) g1 g2 := ⟨below_all I.below hsr hbA, I.tab.below hbA, I.sli.below hbA⟩
      have hcA : ∀ j v, (#[Value.slice a0 len0 cap0, .slice a1 len1 cap1] : Array Value)[j]? = some v → (wr.alloc (.cells #[.slice a0 len0 cap0, .slice a1 len1 cap1] 22)).cell? ⟨wr.heap.size, j, none⟩ = some v := fun j v hv => by
        rw [cell_of_row _ _ _ _ _ _ (heap_alloc_new wr _)]; exact hv
      have hlA : wr.heap.size < (wr.alloc (.cells #[.slice a0 len0 cap0, .slice a1 len1 cap1] 22)).heap.size := by simp
      have hg1 : wr.heap.size ≠ g1 := by have := I.tab.lt; omega
      have hg2 : wr.heap.size ≠ g2 := by have := I.sli.lt; omega
      have H0 : Hid (_) := And.intro IA (And.intro (hcA 0 _ rfl) (And.intro (hcA 1 _ rfl) hlA))
      clear hbA IA hcA hlA I hsr
      generalize wr.heap.size = gl at *
      go_loopw [4, 9, 10, 11, 12, 13, 14, 41] (fun _ _ _ _ _ _ _ c wr => ∃ j, j ≤ 2 ∧ c = .int .i64 ((j : Nat) : Int) ∧ Inv w wr g1 g2 ∧ wr.cell? ⟨gl, 0, none⟩ = some (.slice a0 len0 cap0) ∧ wr.cell? ⟨gl, 1, none⟩ = some (.slice a1 len1 cap1) ∧ gl < wr.heap.size) (fun _ _ _ _ _ _ _ c _ => 2 - (intOf c).toNat)
      case atStart => exact ⟨0, by omega, rfl, H0.out.1, H0.out.2.1, H0.out.2.2.1, H0.out.2.2.2⟩
      case round =>
        clear H0
        obtain ⟨j, hj, rfl, J, c0, c1, hgl⟩ := hrel
        by_cases hlt2 : j < 2
        · obtain ⟨al, ln, cp, bl, hcl, rl, hln⟩ : ∃ al ln cp bl, wr.cell? ⟨gl, j, none⟩ = some (.slice al ln cp) ∧ Row8 w al ln cp bl ∧ ln ≤ 4000 := by
            rcases (show j = 0 ∨ j = 1 by omega) with rfl | rfl
            · exact ⟨_, _, _, _, c0, r0, hl0⟩
            · exact ⟨_, _, _, _, c1, r1, hl1⟩
          have hS := refSum_row al ln cp bl wr (rl.below J.below) (by omega)
          have HJ : Hid (_) := And.intro J (And.intro c0 (And.intro c1 hgl))
          clear J c0 c1
          go_wp2_with fail
          refine hS.mono ?_
          rintro e w4 ⟨rfl, hb4⟩
          have J := HJ.out.1
          have hsr := J.below.size
          have hbel4 := below_all J.below hsr hb4
          have hT := tsum_st w w4 al ln cp bl g1 rl (by omega) hbel4 hB1 (J.tab.below hb4)
          have hs4 := hbel4.size
          have s4 := J.sli.below hb4
          have hgl4 : gl < w4.heap.size := Nat.lt_of_lt_of_le hgl hb4.size
          have d0 := (hb4.cell (p := ⟨gl, 0, none⟩) hgl).trans HJ.out.2.1
          have d1 := (hb4.cell (p := ⟨gl, 1, none⟩) hgl).trans HJ.out.2.2.1
          have H4 : Hid (_) := And.intro d0 d1
          clear hS HJ J hb4 d0 d1 hcl
          go_wp2_with fail
          refine hT.mono ?_
          rintro e w5 ⟨rfl, k5, cu5, t5⟩
          have hbel5 := k5.below hbel4 hB1 hs4
          have s5 := s4.keep k5 hn12.symm
          have hU := ssum_st w w5 al ln cp bl g2 rl (by omega) hbel5 hB2 s5
          have hs5 := hbel5.size
          have hgl5 : gl < w5.heap.size := Nat.lt_of_lt_of_le hgl4 k5.size
          have d0 := (k5.cell (p := ⟨gl, 0, none⟩) hgl4 hg1).trans H4.out.1
          have d1 := (k5.cell (p := ⟨gl, 1, none⟩) hgl4 hg1).trans H4.out.2
          have H5 : Hid (_) := And.intro d0 d1
          clear hT H4 k5 s4 d0 d1 hbel4 hs4 s5
          go_wp2_with fail
          refine hU.mono ?_
          rintro e w6 ⟨rfl, k6, cu6, s6⟩
          have hbel6 := k6.below hbel5 hB2 hs5
          have t6 := t5.keep k6 hn12
          have hgl6 : gl < w6.heap.size := Nat.lt_of_lt_of_le hgl5 k6.size
          have d0 := (k6.cell (p := ⟨gl, 0, none⟩) hgl5 hg2).trans H5.out.1
          have d1 := (k6.cell (p := ⟨gl, 1, none⟩) hgl5 hg2).trans H5.out.2
          have I6 : Inv w w6 g1 g2 := ⟨hbel6, .inr ⟨_, t6⟩, .inr ⟨_, s6⟩⟩
          have hB := cbits_row al ln cp bl w6 (rl.below hbel6) (by omega)
          have H6 : Hid (_) := And.intro I6 (And.intro d0 (And.intro d1 hgl6))
          clear hU H5 k6 d0 d1 hbel5 hs5 t5 t6 s6 I6 hbel6 rl
          generalize PM.K bl ln = kk at *
          go_wp2_with (go_at_call 15; refine hB.mono ?_; rintro e w7 ⟨rfl, rfl⟩)
          go_roundw
          case rel => exact ⟨j + 1, by omega, by go_num, H6.out.1, H6.out.2.1, H6.out.2.2.1, H6.out.2.2.2⟩
          case measure => simp [intOf] <;> omega
        · clear c0 c1
          go_wp2
          go_roundw
          case rel => exact ⟨i + 1, by omega, by go_num, J⟩
          case measure => simp [intOf] <;> omega
    · go_wp2
      go_ret
      exact ⟨rfl, I.below⟩
theorem crcEngines_walk (a0 : Option Addr) (len0 cap0 : Nat) (z0 : List Int) (a1 : Option Addr) (len1 cap1 : Nat) (z1 : List Int) (w : World) (w0 : BRow .u8 w a0 len0 cap0 z0) (w1 : BRow .u8 w a1 len1 cap1 z1) :
    Calls Try.prog 3 #[.slice a0 len0 cap0, .slice a1 len1 cap1] w fun e w' => e = .returned (.bool true) ∧ Below w.heap.size w w' := by
  by_cases h : len0 ≤ 4000 ∧ len1 ≤ 4000
  · exact crcEngines_any a0 len0 cap0 a1 len1 cap1 _ _ w w0.row8 w1.row8 h.1 h.2
  · exact crcEngines_long a0 len0 cap0 a1 len1 cap1 w w0.len_le w1.len_le (by omega)

end Go.Proofs.Ytlnfkgnlagadaaa
