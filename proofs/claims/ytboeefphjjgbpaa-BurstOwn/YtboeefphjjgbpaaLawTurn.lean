/- The walk of the statement BurstTurns. -/
import Derived.Test.YtboeefphjjgbpaaLaw03
namespace Go.Proofs.Ytboeefphjjgbpaa
open Go.RowKit
theorem xr_back (f g : Nat → Nat) (i : Nat) : xr (xr f g) g i = f i := by unfold xr; exact PM.xor_cancel _ _
theorem xr_self (f : Nat → Nat) (i : Nat) : xr f f i = 0 := by unfold xr; exact Nat.xor_self _
theorem xr_two (f g h : Nat → Nat) (i : Nat) : xr (xr f g) h i = xr f (xr g h) i := by unfold xr; exact Nat.xor_assoc _ _ _
theorem xr_other (f g h : Nat → Nat) (i : Nat) : xr (xr f h) g i = xr f (xr g h) i := by unfold xr; rw [Nat.xor_assoc, Nat.xor_comm (h i)]
theorem cnt_zero_bytes (f : Nat → Nat) (n : Nat) (h : ∀ i, i < n → f i = 0) : PM.cnt (PM.fb f) (8 * n) = 0 :=
  PM.cnt_none _ _ (fun k hk => PM.fb_zero (i := k / 8) (h (k / 8) (by omega)) k (by omega) (by omega))
/-- A turned list as a slice that is read. -/
theorem turned_row {w : World} {B g n c : Nat} {f : Nat → Nat} (h : w.ownsRow B 5 1 (.slice (some ⟨g, 0, none⟩) n c) n (CB f n)) (hf : ∀ i, i < n → f i < 256) : Row8 w (some ⟨g, 0, none⟩) n c f := by
  obtain ⟨a, cap, he, hr⟩ := own_row8 h hf
  simp only [Value.slice.injEq, true_and] at he
  obtain ⟨rfl, rfl⟩ := he
  exact hr
set_option maxHeartbeats 1000000 in
theorem burstTurns_long (a0 : Option Addr) (len0 cap0 : Nat) (a1 : Option Addr) (len1 cap1 : Nat) (w : World) (h : 4000 < len0 ∨ 4000 < len1) :
    Calls Try.prog 6 #[.slice a0 len0 cap0, .slice a1 len1 cap1] w fun e w' => e = .returned (.bool true) ∧ Below w.heap.size w w' := by
  by_cases h1 : 4000 < len0
  · clear h
    go_enter Try.func6, Try.ntmps6
    go_wp2_with (go_at_call 9; refine (awake3 _).mono ?_; rintro e w' ⟨rfl, hb⟩)
    go_ret
    exact ⟨rfl, hb⟩
  · have h2 : 4000 < len1 := by omega
    clear h
    go_enter Try.func6, Try.ntmps6
    go_wp2_with (go_at_call 9; refine (awake3 _).mono ?_; rintro e w' ⟨rfl, hb⟩)
    go_ret
    exact ⟨rfl, hb⟩
set_option maxRecDepth 100000 in
set_option maxHeartbeats 1000000 in
theorem burstTurns_any (a0 : Option Addr) (len0 cap0 : Nat) (a1 : Option Addr) (len1 cap1 : Nat) (f g : Nat → Nat) (w : World) (r0 : Row8 w a0 len0 cap0 f) (r1 : Row8 w a1 len1 cap1 g) (hl0 : len0 ≤ 4000) (hl1 : len1 ≤ 4000) :
    Calls Try.prog 6 #[.slice a0 len0 cap0, .slice a1 len1 cap1] w fun e w' => e = .returned (.bool true) ∧ Below w.heap.size w w' := by
  go_enter Try.func6, Try.ntmps6
  go_wp2_with fail
  refine (awake3 w).mono ?_
  rintro e w1 ⟨rfl, hb1⟩
  have hs1 := hb1.size
  by_cases hne : len0 = len1
  · subst hne
    have p0 := r0.below hb1
    have p1 := r1.below hb1
    go_wp2_with fail
    refine (turn_good a0 a1 len0 cap0 cap1 f g w1 p0 p1 (by omega)).mono ?_
    rintro e w2 ⟨c2, rfl, H2⟩
    have hb2 := H2.out.1
    have hs2 := hb2.size
    have p0 := p0.below hb2
    have p1 := p1.below hb2
    have q2 := turned_row H2.out.2 (xr_lt r0.byte r1.byte)
    have hb02 := below_all hb1 hs1 hb2
    clear hb1 H2 hb2
    go_wp2_with fail
    refine (refTurn_good a0 a1 len0 cap0 cap1 f g w2 p0 p1 (by omega)).mono ?_
    rintro e w3 ⟨c3, rfl, H3⟩
    have hb3 := H3.out.1
    have hs3 := hb3.size
    have p0 := p0.below hb3
    have p1 := p1.below hb3
    have q2 := q2.below hb3
    have q3 := turned_row H3.out.2 (xr_lt r0.byte r1.byte)
    have hb03 := below_all hb02 (Nat.le_trans hs1 hs2) hb3
    have hc2 := conv_any _ _ _ _ w3 q2
    have hc3 := conv_any _ _ _ _ w3 q3
    have hT := turn_good _ a1 len0 c2 cap1 (xr f g) g w3 q2 p1 (by omega)
    clear hb02 H3 hb3 q2 q3 p1
    generalize BA (xr f g) len0 = X at *
    go_wp2_with fail
    refine hT.mono ?_
    rintro e w4 ⟨c4, rfl, H4⟩
    have hb4 := H4.out.1
    have hs4 := hb4.size
    have p0 := p0.below hb4
    have q4 := turned_row H4.out.2 (xr_lt (xr_lt r0.byte r1.byte) r1.byte)
    have hb04 := below_all hb03 (by omega) hb4
    clear hb03 H4 hb4 hT hc2 hc3
    go_wp2_with fail
    refine (turn_good a0 a0 len0 cap0 cap0 f f w4 p0 p0 (by omega)).mono ?_
    rintro e w5 ⟨c5, rfl, H5⟩
    have hb5 := H5.out.1
    have p0 := p0.below hb5
    have q4 := (q4.below hb5).congr (cs := f) (fun i _ => xr_back f g i)
    have q5 := turned_row H5.out.2 (xr_lt r0.byte r0.byte)
    have hb05 := below_all hb04 (by omega) hb5
    have hc4 := conv_any _ _ _ _ w5 q4
    have hc0 := conv_any _ _ _ _ w5 p0
    have hW := weight_row _ _ _ _ w5 q5 (by omega)
    rw [cnt_zero_bytes _ _ (fun i _ => xr_self f i)] at hW
    have HB : Hid (Below w.heap.size w w5) := hb05
    clear hb04 hb05 H5 hb5 q4 q5 p0 r0 r1
    generalize BA f len0 = X at *
    go_wp2_with (go_at_call 19; refine hW.mono ?_; rintro e w' ⟨rfl, hw⟩; rw [hw]; clear hw)
    go_ret
    exact ⟨rfl, HB.out⟩
  · have hM := turn_bad a0 a1 len0 len1 cap0 cap1 w1 hne
    have hR := refTurn_bad a0 a1 len0 len1 cap0 cap1 w1 hne
    have HB : Hid (Below w.heap.size w w1) := hb1
    have hn1 := conv_any none 0 0 (fun _ => 0) w1 ⟨fun i hi => by omega, fun _ => ⟨rfl, rfl⟩, (fun x hx => by cases hx), Nat.le_refl _⟩
    generalize BA (fun _ => 0) 0 = X at *
    clear hb1 r0 r1
    go_wp2_with fail
    refine hM.mono ?_
    rintro e w2 ⟨rfl, rfl⟩
    go_wp2_with fail
    refine hR.mono ?_
    rintro e w3 ⟨rfl, rfl⟩
    go_wp2_with fail
    go_ret
    exact ⟨rfl, HB.out⟩
theorem burstTurns_walk (a0 : Option Addr) (len0 cap0 : Nat) (z0 : List Int) (a1 : Option Addr) (len1 cap1 : Nat) (z1 : List Int) (w : World) (w0 : BRow .u8 w a0 len0 cap0 z0) (w1 : BRow .u8 w a1 len1 cap1 z1) :
    Calls Try.prog 6 #[.slice a0 len0 cap0, .slice a1 len1 cap1] w fun e w' => e = .returned (.bool true) ∧ Below w.heap.size w w' := by
  by_cases h : len0 ≤ 4000 ∧ len1 ≤ 4000
  · exact burstTurns_any a0 len0 cap0 a1 len1 cap1 _ _ w w0.row8 w1.row8 h.1 h.2
  · exact burstTurns_long a0 len0 cap0 a1 len1 cap1 w (by omega)

end Go.Proofs.Ytboeefphjjgbpaa
