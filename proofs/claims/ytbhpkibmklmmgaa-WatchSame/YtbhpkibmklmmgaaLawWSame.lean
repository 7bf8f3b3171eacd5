/- Layer 10: n ticks at once are n single ones. -/
import Derived.Test.YtbhpkibmklmmgaaWatch2
namespace Go.Proofs.Ytbhpkibmklmmgaa
open Go.RowKit

theorem tk_one (l k : Nat) : tk l (tk l 0 k) 1 = tk l 0 (k + 1) := by unfold tk; omega
theorem told_one (l k : Nat) (h : 1 ≤ l) : (told l 0 k || told l (tk l 0 k) 1) = told l 0 (k + 1) := by
  unfold told tk
  rw [Bool.eq_iff_iff]
  simp
  omega
set_option maxRecDepth 100000 in
set_option maxHeartbeats 4000000 in
theorem same_in (l n : Nat) (w : World) (h1 : 1 ≤ l) (h2 : l ≤ 1048576) (hn : n ≤ 3000) :
    Calls Try.prog 5 #[.int .i64 l, .int .i64 n] w fun e w' => e = .returned (.bool true) ∧ Below w.heap.size w w' := by
  go_enter Try.func5, Try.ntmps5
  go_wp2_with fail
  refine (awake10 w).mono ?_
  rintro e w1 ⟨rfl, o1⟩
  go_wp2_with fail
  refine (wnew_ok l w1 h1 h2).mono ?_
  rintro e w2 ⟨rfl, o2, d2⟩
  go_wp2_with fail
  refine (wnew_ok l w2 h1 h2).mono ?_
  rintro e w3 ⟨rfl, o3, d3⟩
  have d4 := d2.off o3 (by simp)
  have ha := o1.size
  have hb := d2.lt
  have b3 : Below w.heap.size w w3 := (o1.trans (o2.trans o3)).nilB
  clear o1 o2 o3 d2
  generalize w1.heap.size = A at *
  generalize w2.heap.size = B at *
  go_wp2_with fail
  refine (wticks_any l 0 n A w3 d4 (by omega)).mono ?_
  rintro e w4 ⟨rfl, o4, d5⟩
  have d6 := d3.off o4 (by simp; omega)
  have b4 := o4.below b3 (by simpa using ha) b3.size
  clear o4 b3 d3 d4
  obtain ⟨X, hX⟩ : ∃ X, X = told l 0 n := ⟨_, rfl⟩
  rw [← hX]
  have HX : Hid (_) := hX
  clear hX
  have H0 : Hid (_) := And.intro d5 (And.intro d6 b4)
  clear d5 d6 b4
  go_wp2_with fail
  go_loopw [11, 12] (fun y i wr => ∃ (k : Nat) (Y : Bool), k ≤ n ∧ i = .int .i64 ((k : Nat) : Int) ∧ y = .bool Y ∧ Y = told l 0 k ∧ DR wr A l (tk l 0 n) ∧ DR wr B l (tk l 0 k) ∧ Below w.heap.size w wr) (fun _ i _ => n - (intOf i).toNat)
  case atStart => exact ⟨0, false, by omega, rfl, rfl, by simp [told]; omega, H0.out.1, H0.out.2.1, H0.out.2.2⟩
  case round =>
    clear H0
    obtain ⟨k, Y, hk, rfl, rfl, hY, dA, dB, b⟩ := hrel
    have HY : Hid (_) := hY
    clear hY
    by_cases hlt : k < n
    · go_wp2_with fail
      refine (wtick_any l _ B wr dB).mono ?_
      rintro e w5 ⟨rfl, o5, e5⟩
      have e6 := dA.off o5 (by simp; omega)
      have b5 := o5.below b (by simp; omega) b.size
      rw [tk_one] at e5
      have hT := told_one l k h1
      rw [← HY.out] at hT
      have H1 : Hid (_) := And.intro e6 (And.intro e5 b5)
      clear e6 e5 b5 o5 dA dB b
      generalize told l (tk l 0 k) 1 = t at *
      have HT : Hid (_) := hT
      clear hT
      cases t
      · go_wp2_with fail
        go_roundw
        case rel => exact ⟨k + 1, Y, by omega, by go_num, rfl, by have := HT.out; simpa using this, H1.out.1, H1.out.2.1, H1.out.2.2⟩
        case measure => simp [intOf] <;> omega
      · go_wp2_with fail
        go_roundw
        case rel => exact ⟨k + 1, true, by omega, by go_num, rfl, by have := HT.out; simpa using this, H1.out.1, H1.out.2.1, H1.out.2.2⟩
        case measure => simp [intOf] <;> omega
    · have hkn : k = n := by omega
      have hXY : Y = X := by rw [HX.out, HY.out, hkn]
      subst hXY
      have hS : tk l 0 k = tk l 0 n := by rw [hkn]
      rw [hS] at dB
      clear hS hkn
      generalize tk l 0 n = s at *
      have Hb : Hid (_) := b
      clear b
      go_wp2_with fail
      refine (wsince_any l _ A wr dA).mono ?_
      rintro e w5 ⟨rfl, hw⟩
      rw [hw]; clear hw
      go_wp2_with fail
      refine (wsince_any l _ B wr dB).mono ?_
      rintro e w5 ⟨rfl, hw⟩
      rw [hw]; clear hw
      clear dA dB
      go_wp2_with fail
      go_ret
      exact ⟨rfl, Hb.out⟩
set_option maxRecDepth 100000 in
set_option maxHeartbeats 4000000 in
theorem same_out (a0 a1 : Int) (w : World) (h : a0 < 1 ∨ 1048576 < a0 ∨ a1 < 0 ∨ 3000 < a1) :
    Calls Try.prog 5 #[.int .i64 a0, .int .i64 a1] w fun e w' => e = .returned (.bool true) ∧ Below w.heap.size w w' := by
  have hh : Hid (a0 < 1 ∨ 1048576 < a0 ∨ a1 < 0 ∨ 3000 < a1) := h
  clear h
  go_enter Try.func5, Try.ntmps5
  go_wp2_with fail
  refine (awake10 w).mono ?_
  rintro e w1 ⟨rfl, o1⟩
  have b1 : Hid (_) := o1.nilB
  clear o1
  by_cases c1 : a0 < 1
  · go_wp2_with fail
    go_ret
    exact ⟨rfl, b1.out⟩
  · by_cases c2 : 1048576 < a0
    · go_wp2_with fail
      go_ret
      exact ⟨rfl, b1.out⟩
    · by_cases c3 : a1 < 0
      · go_wp2_with fail
        go_ret
        exact ⟨rfl, b1.out⟩
      · have c4 : 3000 < a1 := by have := hh.out; omega
        go_wp2_with fail
        go_ret
        exact ⟨rfl, b1.out⟩
theorem watchSame_walk (a0 a1 : Int) (_w0 : (Lit.int .i64 a0).wf = true) (_w1 : (Lit.int .i64 a1).wf = true) (w : World) :
    Calls Try.prog 5 #[.int .i64 a0, .int .i64 a1] w fun e w' => e = .returned (.bool true) ∧ Below w.heap.size w w' := by
  by_cases h : a0 < 1 ∨ 1048576 < a0 ∨ a1 < 0 ∨ 3000 < a1
  · exact same_out a0 a1 w h
  · have e0 : a0 = ((a0.toNat : Nat) : Int) := by omega
    have e1 : a1 = ((a1.toNat : Nat) : Int) := by omega
    rw [e0, e1]
    exact same_in _ _ w (by omega) (by omega) (by omega)

end Go.Proofs.Ytbhpkibmklmmgaa
