/- Layer 6: the first code stays. -/
import Derived.Test.YtodopnconlgghaaGRef
import Derived.Test.YtodopnconlgghaaRown
namespace Go.Proofs.Ytodopnconlgghaa
open Go.RowKit

set_option maxRecDepth 100000 in
set_option maxHeartbeats 4000000 in
theorem first_some (b off len cap : Nat) (z : Nat → Int) (w : World) (hlen : len ≤ 9223372036854775807) (hb : b < w.heap.size)
    (hc : ∀ i, i < len → w.cell? ⟨b, off + i, none⟩ = some (.int .i64 (z i))) :
    Calls Try.prog 4 #[.slice (some ⟨b, off, none⟩) len cap] w fun e w' => e = .returned (.bool true) ∧ Below w.heap.size w w' := by
  go_enter Try.func4, Try.ntmps4
  go_wp2_with fail
  refine (awake6 w).mono ?_
  rintro e w0 ⟨rfl, o0⟩
  go_wp2_with fail
  refine (gnew_any w0).mono ?_
  rintro e w1 ⟨rfl, o1, g1⟩
  have hle := o0.size
  have b1 : Below w.heap.size w w1 := (o0.trans o1).below (Below.refl _ _) (by simp) (Nat.le_refl _)
  clear o0 o1
  generalize w0.heap.size = g at *
  go_wp2_with fail
  go_loopw [2, 4, 5, 6, 7] (fun _ c t i _ wr => ∃ (k : Nat) (C T : Int), k ≤ len ∧ i = .int .i64 ((k : Nat) : Int) ∧ c = .int .i64 C ∧ t = .int .i64 T ∧ GR wr g 0 (dn C) 0 C T ∧ Below w.heap.size w wr) (fun _ _ _ i _ _ => len - (intOf i).toNat)
  case atStart => exact ⟨0, 0, 0, by omega, rfl, rfl, rfl, g1, b1⟩
  case round =>
    clear g1 b1
    obtain ⟨k, C, T, hk, rfl, rfl, rfl, G, B⟩ := hrel
    by_cases hlt : k < len
    · have hcell : wr.cell? ⟨b, off + k, none⟩ = some (.int .i64 (z k)) := (B.cell (p := ⟨b, off + k, none⟩) hb).trans (hc k hlt)
      generalize z k = x at *
      clear hc
      have lw := B.size
      have hg : w.heap.size ≤ g := hle
      by_cases hC : C = 0
      · subst hC
        rw [dn0] at G
        by_cases hx : x = 0
        · subst hx
          go_wp2_with fail
          refine (trip_ok _ _ _ _ _ _ wr G).mono ?_
          rintro e w2 ⟨rfl, o2, G2⟩
          have B2 := o2.below B (by simpa using hg) lw
          clear o2 B G
          go_wp2_with fail
          refine (code_any _ _ _ _ w2 G2).mono ?_
          rintro e w3 ⟨rfl, o3, G3⟩
          have B3 := o3.below B2 (by simpa using hg) B2.size
          clear o3 B2 G2
          go_wp2_with fail
          refine (times_any _ _ _ _ w3 G3).mono ?_
          rintro e w4 ⟨rfl, o4, G4⟩
          have B4 := o4.below B3 (by simpa using hg) B3.size
          clear o4 B3 G3
          have HB : Hid (_) := And.intro G4 B4
          clear G4 B4
          go_wp2_with fail
          go_roundw
          case rel => exact ⟨k + 1, 0, T, by omega, by go_num, rfl, rfl, dn0.symm ▸ HB.out.1, HB.out.2⟩
          case measure => simp [intOf] <;> omega
        · go_wp2_with fail
          refine (trip_first _ x T hx wr G).mono ?_
          rintro e w2 ⟨rfl, o2, G2⟩
          have B2 := o2.below B (by simpa using hg) lw
          clear o2 B G
          go_wp2_with fail
          refine (code_any _ _ _ _ w2 G2).mono ?_
          rintro e w3 ⟨rfl, o3, G3⟩
          have B3 := o3.below B2 (by simpa using hg) B2.size
          clear o3 B2 G2
          go_wp2_with fail
          refine (times_any _ _ _ _ w3 G3).mono ?_
          rintro e w4 ⟨rfl, o4, G4⟩
          have B4 := o4.below B3 (by simpa using hg) B3.size
          clear o4 B3 G3
          have HB : Hid (_) := And.intro G4 B4
          clear G4 B4
          go_wp2_with fail
          go_roundw
          case rel => exact ⟨k + 1, x, wrap64 (T + 1), by omega, by go_num, rfl, rfl, (dn1 hx).symm ▸ HB.out.1, HB.out.2⟩
          case measure => simp [intOf] <;> omega
      · rw [dn1 hC] at G
        by_cases hx : x = 0
        · subst hx
          go_wp2_with fail
          refine (trip_ok _ _ _ _ _ _ wr G).mono ?_
          rintro e w2 ⟨rfl, o2, G2⟩
          have B2 := o2.below B (by simpa using hg) lw
          clear o2 B G
          go_wp2_with fail
          refine (code_any _ _ _ _ w2 G2).mono ?_
          rintro e w3 ⟨rfl, o3, G3⟩
          have B3 := o3.below B2 (by simpa using hg) B2.size
          clear o3 B2 G2
          go_wp2_with fail
          refine (times_any _ _ _ _ w3 G3).mono ?_
          rintro e w4 ⟨rfl, o4, G4⟩
          have B4 := o4.below B3 (by simpa using hg) B3.size
          clear o4 B3 G3
          have HB : Hid (_) := And.intro G4 B4
          clear G4 B4
          go_wp2_with fail
          go_roundw
          case rel => exact ⟨k + 1, C, T, by omega, by go_num, rfl, rfl, (dn1 hC).symm ▸ HB.out.1, HB.out.2⟩
          case measure => simp [intOf] <;> omega
        · go_wp2_with fail
          refine (trip_again _ x C T hx wr G).mono ?_
          rintro e w2 ⟨rfl, o2, G2⟩
          have B2 := o2.below B (by simpa using hg) lw
          clear o2 B G
          go_wp2_with fail
          refine (code_any _ _ _ _ w2 G2).mono ?_
          rintro e w3 ⟨rfl, o3, G3⟩
          have B3 := o3.below B2 (by simpa using hg) B2.size
          clear o3 B2 G2
          go_wp2_with fail
          refine (times_any _ _ _ _ w3 G3).mono ?_
          rintro e w4 ⟨rfl, o4, G4⟩
          have B4 := o4.below B3 (by simpa using hg) B3.size
          clear o4 B3 G3
          have HB : Hid (_) := And.intro G4 B4
          clear G4 B4
          go_wp2_with fail
          go_roundw
          case rel => exact ⟨k + 1, C, wrap64 (T + 1), by omega, by go_num, rfl, rfl, (dn1 hC).symm ▸ HB.out.1, HB.out.2⟩
          case measure => simp [intOf] <;> omega
    · have hg : w.heap.size ≤ g := hle
      go_wp2_with fail
      refine (lift_any _ _ _ _ wr G).mono ?_
      rintro e w2 ⟨rfl, o2, G2⟩
      have B2 := o2.below B (by simpa using hg) B.size
      clear o2 B G
      go_wp2_with fail
      refine (code_any _ _ _ _ w2 G2).mono ?_
      rintro e w3 ⟨rfl, o3, G3⟩
      have B3 := o3.below B2 (by simpa using hg) B2.size
      clear o3 B2 G2
      go_wp2_with fail
      refine (times_any _ _ _ _ w3 G3).mono ?_
      rintro e w4 ⟨rfl, o4, G4⟩
      have B4 := o4.below B3 (by simpa using hg) B3.size
      clear o4 B3 G3
      go_wp2_with fail
      refine (lift_any _ _ _ _ w4 G4).mono ?_
      rintro e w5 ⟨rfl, o5, G5⟩
      have B5 := o5.below B4 (by simpa using hg) B4.size
      clear o5 B4 G4
      go_wp2_with fail
      refine (trip_first _ 5 0 (by decide) w5 G5).mono ?_
      rintro e w6 ⟨rfl, o6, G6⟩
      have B6 := o6.below B5 (by simpa using hg) B5.size
      clear o6 B5 G5
      go_wp2_with fail
      refine (code_any _ _ _ _ w6 G6).mono ?_
      rintro e w7 ⟨rfl, o7, G7⟩
      have B7 := o7.below B6 (by simpa using hg) B6.size
      go_wp2_with fail
      go_ret
      exact ⟨rfl, B7⟩
set_option maxRecDepth 100000 in
set_option maxHeartbeats 2000000 in
theorem first_none (a : Option Addr) (cap : Nat) (w : World) :
    Calls Try.prog 4 #[.slice a 0 cap] w fun e w' => e = .returned (.bool true) ∧ Below w.heap.size w w' := by
  go_enter Try.func4, Try.ntmps4
  go_wp2_with fail
  refine (awake6 w).mono ?_
  rintro e w0 ⟨rfl, o0⟩
  go_wp2_with fail
  refine (gnew_any w0).mono ?_
  rintro e w1 ⟨rfl, o1, G⟩
  have hg := o0.size
  have B : Below w.heap.size w w1 := (o0.trans o1).below (Below.refl _ _) (by simp) (Nat.le_refl _)
  clear o0 o1
  generalize w0.heap.size = g at *
  go_wp2_with fail
  refine wp_loop_once ?_
  go_wp2_with fail
  refine (lift_any _ _ _ _ w1 G).mono ?_
  rintro e w2 ⟨rfl, o2, G2⟩
  have B2 := o2.below B (by simpa using hg) B.size
  clear o2 B G
  go_wp2_with fail
  refine (code_any _ _ _ _ w2 G2).mono ?_
  rintro e w3 ⟨rfl, o3, G3⟩
  have B3 := o3.below B2 (by simpa using hg) B2.size
  clear o3 B2 G2
  go_wp2_with fail
  refine (times_any _ _ _ _ w3 G3).mono ?_
  rintro e w4 ⟨rfl, o4, G4⟩
  have B4 := o4.below B3 (by simpa using hg) B3.size
  clear o4 B3 G3
  go_wp2_with fail
  refine (lift_any _ _ _ _ w4 G4).mono ?_
  rintro e w5 ⟨rfl, o5, G5⟩
  have B5 := o5.below B4 (by simpa using hg) B4.size
  clear o5 B4 G4
  go_wp2_with fail
  refine (trip_first _ 5 0 (by decide) w5 G5).mono ?_
  rintro e w6 ⟨rfl, o6, G6⟩
  have B6 := o6.below B5 (by simpa using hg) B5.size
  clear o6 B5 G5
  go_wp2_with fail
  refine (code_any _ _ _ _ w6 G6).mono ?_
  rintro e w7 ⟨rfl, o7, G7⟩
  have B7 := o7.below B6 (by simpa using hg) B6.size
  go_wp2_with fail
  go_ret
  exact ⟨rfl, B7⟩
theorem gateFirst_walk (a0 : Option Addr) (len0 cap0 : Nat) (z0 : List Int) (w : World) (w0 : BRow .i64 w a0 len0 cap0 z0) :
    Calls Try.prog 4 #[.slice a0 len0 cap0] w fun e w' => e = .returned (.bool true) ∧ Below w.heap.size w w' := by
  by_cases hp : 0 < len0
  · obtain ⟨b, off, rfl, hb, h⟩ := w0.nums hp
    exact first_some b off len0 cap0 (fun i => z0.getD i 0) w w0.len_le hb (fun i hi => (h i hi).1)
  · obtain rfl : len0 = 0 := by omega
    exact first_none a0 cap0 w

end Go.Proofs.Ytodopnconlgghaa
