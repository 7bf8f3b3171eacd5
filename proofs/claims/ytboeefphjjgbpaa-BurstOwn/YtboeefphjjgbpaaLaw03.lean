/- The walks of the statements of layer 3: Awake, BurstMakes, BurstShape. -/
import Derived.Test.YtboeefphjjgbpaaBMake2
import Derived.Test.YtboeefphjjgbpaaOwn
namespace Go.Proofs.Ytboeefphjjgbpaa
open Go.RowKit

theorem bl5 : PM.bl 5 = 3 := by decide
def two80 (i : Nat) : Nat := if i = 0 then 2 else 128
theorem two80_ly : ∀ k : Fin 16, PM.fb two80 k.val = PM.ly 6 3 5 3 k.val := by decide
theorem two80_lt (i : Nat) : two80 i < 256 := by unfold two80; split <;> omega
theorem BA_two80 : BA two80 2 = ⟨#[2, 128]⟩ := by rfl
/-- What the readers say of laid bits. -/
theorem first_said (a : Option Addr) (len cap : Nat) (f : Nat → Nat) (w : World) (hr : Row8 w a len cap f) (hlen : len ≤ 1000000) (r : Int) (h : PM.IsFirst (PM.fb f) (8 * len) r) :
    Calls Try.prog 13 #[.slice a len cap] w fun e w' => e = .returned (.int .i64 r) ∧ w' = w := by
  refine (first_row a len cap f w hr hlen).mono ?_
  rintro e w' ⟨s, rfl, rfl, hs⟩
  exact ⟨by rw [PM.IsFirst.one hs h], rfl⟩
theorem last_said (a : Option Addr) (len cap : Nat) (f : Nat → Nat) (w : World) (hr : Row8 w a len cap f) (hlen : len ≤ 1000000) (r : Int) (h : PM.IsLast (PM.fb f) (8 * len) r) :
    Calls Try.prog 15 #[.slice a len cap] w fun e w' => e = .returned (.int .i64 r) ∧ w' = w := by
  refine (last_row a len cap f w hr hlen).mono ?_
  rintro e w' ⟨s, rfl, rfl, hs⟩
  exact ⟨by rw [PM.IsLast.one hs h], rfl⟩
theorem span_said (a : Option Addr) (len cap : Nat) (f : Nat → Nat) (w : World) (hr : Row8 w a len cap f) (hlen : len ≤ 1000000) (r s : Int) (h : PM.IsFirst (PM.fb f) (8 * len) r) (h2 : PM.IsLast (PM.fb f) (8 * len) s) :
    Calls Try.prog 17 #[.slice a len cap] w fun e w' => e = .returned (.int .i64 (spn r s)) ∧ w' = w := by
  refine (span_row a len cap f w hr hlen).mono ?_
  rintro e w' ⟨r', s', rfl, rfl, hs, hs2⟩
  exact ⟨by rw [PM.IsFirst.one hs h, PM.IsLast.one hs2 h2], rfl⟩
set_option maxHeartbeats 1000000 in
theorem awake3 (w : World) :
    Calls Try.prog 9 #[] w fun e w' => e = .returned (.bool true) ∧ Below w.heap.size w w' := by
  have hM := make_good 2 6 5 w (by omega) (by omega) (by omega) (by rw [bl5]; omega)
  go_enter Try.func9, Try.ntmps9
  go_wp2_with fail
  refine hM.mono ?_
  rintro e w1 ⟨v, rfl, H⟩
  obtain ⟨hb, f, hown, hfb, hly⟩ := H.out
  rw [bl5] at hly
  obtain ⟨a, cap, rfl, R⟩ := own_row8 hown hfb
  have h1 : PM.IsFirst (PM.fb f) (8 * 2) 6 := by
    have h := PM.ly_first (a := 6) (x := 5) (n := 8 * 2) (by omega) (by rw [bl5]; omega)
    rw [bl5] at h
    exact h.congr (fun i hi => (hly i hi).symm)
  have h2 : PM.IsLast (PM.fb f) (8 * 2) 8 := by
    have h := (PM.ly_last (a := 6) (x := 5) (n := 8 * 2) (low := 0) (by rw [bl5]; omega) (by decide) (by omega)).2
    rw [bl5] at h
    exact h.congr (fun i hi => (hly i hi).symm)
  have hF := first_said a 2 cap f w1 R (by omega) 6 h1
  have hL := last_said a 2 cap f w1 R (by omega) 8 h2
  have hS := span_said a 2 cap f w1 R (by omega) 6 8 h1 h2
  have hc := conv_any a 2 cap f w1 R
  have he : BA f 2 = ⟨#[2, 128]⟩ := by
    rw [← BA_two80, BA_eq f two80 2 hfb (fun i _ => two80_lt i)]
    exact PM.byte_ext hfb (fun i _ => two80_lt i) (fun k hk => (hly k hk).trans (two80_ly ⟨k, hk⟩).symm)
  rw [he] at hc
  have HB : Hid (Below w.heap.size w w1) := hb
  rw [show spn 6 8 = 3 by decide] at hS
  clear hM H hb hown hfb hly R h1 h2 he
  go_wp2_with (first | (go_at_call 17; refine hS.mono ?_; rintro e w' ⟨rfl, hw⟩; rw [hw]; clear hw) | (go_at_call 13; refine hF.mono ?_; rintro e w' ⟨rfl, hw⟩; rw [hw]; clear hw) | (go_at_call 15; refine hL.mono ?_; rintro e w' ⟨rfl, hw⟩; rw [hw]; clear hw))
  go_ret
  exact ⟨rfl, HB.out⟩
set_option maxHeartbeats 1000000 in
theorem burstMakes_any (n at_ : Int) (x : Nat) (w : World) (hx : x < 4294967296) (hn : -9223372036854775808 ≤ n ∧ n < 9223372036854775808) (ha : -9223372036854775808 ≤ at_ ∧ at_ < 9223372036854775808) :
    Calls Try.prog 4 #[.int .i64 n, .int .i64 at_, .int .u32 x] w fun e w' => e = .returned (.bool true) ∧ Below w.heap.size w w' := by
  go_enter Try.func4, Try.ntmps4
  go_wp2_with fail
  refine (awake3 w).mono ?_
  rintro e w1 ⟨rfl, hb1⟩
  have hs1 := hb1.size
  by_cases hE : mkErr n at_ x = 0
  · have hnr : ¬ (n < 0 ∨ 65536 < n) := fun h => by rw [mkErr_range h] at hE; omega
    have hbr : ¬ (x = 0 ∨ at_ < 0 ∨ 8 * n < at_ + PM.bl x) := fun h => by rw [mkErr_burst hnr h] at hE; omega
    obtain ⟨N, rfl⟩ : ∃ N : Nat, n = N := ⟨n.toNat, by omega⟩
    obtain ⟨A, rfl⟩ : ∃ A : Nat, at_ = A := ⟨at_.toNat, by omega⟩
    have hM := fun w => make_good N A x w hx (by omega) (by omega) (by omega)
    have hR := fun w => refMake_good N A x w hx (by omega) (by omega) (by omega)
    clear hE hnr hbr hn ha
    go_wp2_with fail
    refine (hM _).mono ?_
    rintro e w2 ⟨v2, rfl, H2⟩
    go_wp2_with fail
    refine (hR _).mono ?_
    rintro e w3 ⟨v3, rfl, H3⟩
    obtain ⟨hb2, f, o2, f2, l2⟩ := H2.out
    obtain ⟨hb3, g, o3, f3, l3⟩ := H3.out
    obtain ⟨a2, c2, rfl, R2⟩ := own_row8 o2 f2
    obtain ⟨a3, c3, rfl, R3⟩ := own_row8 o3 f3
    have hc2 := conv_any a2 N c2 f w3 (R2.below hb3)
    have hc3 := conv_any a3 N c3 g w3 R3
    have he : BA f N = BA g N := (BA_eq f g N f2 f3).2 (PM.byte_ext f2 f3 (fun k hk => (l2 k hk).trans (l3 k hk).symm))
    rw [← he] at hc3
    have HB : Hid (Below w.heap.size w w3) := below_all (below_all hb1 hs1 hb2) (Nat.le_trans hs1 hb2.size) hb3
    generalize BA f N = X at *
    clear H2 H3 hb1 hb2 hb3 o2 o3 f2 f3 l2 l3 R2 R3 he hM hR
    go_wp2_with fail
    go_ret
    exact ⟨rfl, HB.out⟩
  · have hM := make_bad n at_ x w1 hx hn ha hE
    have hR := refMake_bad n at_ x w1 hx hn ha hE
    have HB : Hid (Below w.heap.size w w1) := hb1
    have hn1 := conv_any none 0 0 (fun _ => 0) w1 ⟨fun i hi => by omega, fun _ => ⟨rfl, rfl⟩, (fun x hx => by cases hx), Nat.le_refl _⟩
    generalize BA (fun _ => 0) 0 = X at *
    have hEl : -100 ≤ mkErr n at_ x ∧ mkErr n at_ x ≤ 100 := by unfold mkErr; split <;> (try split) <;> omega
    clear hb1 hE
    generalize mkErr n at_ x = E at *
    go_wp2_with fail
    refine hM.mono ?_
    rintro e w2 ⟨rfl, rfl⟩
    go_wp2_with fail
    refine hR.mono ?_
    rintro e w3 ⟨rfl, rfl⟩
    go_wp2_with fail
    go_ret
    exact ⟨rfl, HB.out⟩
theorem nat32B {z : Int} (h : (Lit.int .u32 z).wf = true) : ∃ x : Nat, z = (x : Int) ∧ x < 4294967296 := by
  have := bounds_u32 h
  exact ⟨z.toNat, by omega, by omega⟩
theorem burstMakes_walk (a0 : Int) (a1 : Int) (a2 : Int) (w0 : (Lit.int .i64 a0).wf = true) (w1 : (Lit.int .i64 a1).wf = true) (w2 : (Lit.int .u32 a2).wf = true) (w : World) :
    Calls Try.prog 4 #[.int .i64 a0, .int .i64 a1, .int .u32 a2] w fun e w' => e = .returned (.bool true) ∧ Below w.heap.size w w' := by
  obtain ⟨x, rfl, hx⟩ := nat32B w2
  have h0 := bounds_i64 w0
  have h1 := bounds_i64 w1
  exact burstMakes_any a0 a1 x w hx (by omega) (by omega)
theorem shr_xor_bit (x i : Nat) (h : x < 2 ^ (i + 1)) (hb : x.testBit i = true) : PM.bl x = i + 1 := by
  have h1 : 2 ^ i ≤ x := Nat.ge_two_pow_of_testBit hb
  have h0 : x ≠ 0 := by have := Nat.two_pow_pos i; omega
  rw [PM.bl_pos h0, (Nat.log2_eq_iff h0).2 ⟨h1, h⟩]
/-- What the statement's loop over the word's bits has found when i bits are left. -/
def Found (x i heavy low size : Nat) : Prop :=
  heavy + PM.wt x i = PM.wt x 32 ∧ heavy ≤ 32 ∧ ((size = 0 ∧ x < 2 ^ i) ∨ (size = PM.bl x ∧ 0 < size ∧ size ≤ 32 ∧ i ≤ low ∧ low < 32 ∧ x.testBit low = true ∧ ∀ k, i ≤ k → k < low → x.testBit k = false))
theorem Found.start (x : Nat) (hx : x < 4294967296) : Found x 32 0 32 0 := ⟨by omega, by omega, .inl ⟨rfl, hx⟩⟩
theorem wt_step (x i : Nat) : PM.wt x (i + 1) = PM.wt x i + (x.testBit i).toNat := by rw [Nat.toNat_testBit]; rfl
theorem Found.no {x i heavy low size : Nat} (h : Found x (i + 1) heavy low size) (hb : x.testBit i = false) : Found x i heavy low size := by
  obtain ⟨h1, h1', h2⟩ := h
  rw [wt_step, hb] at h1
  refine ⟨by simpa using h1, h1', ?_⟩
  rcases h2 with ⟨e, hl⟩ | ⟨e, hp, hs, hl, hl2, ht, hz⟩
  · exact .inl ⟨e, PM.lt_of_bits hl hb⟩
  · exact .inr ⟨e, hp, hs, by omega, hl2, ht, fun k hk hk2 => by
      by_cases x : k = i
      · rw [x]; exact hb
      · exact hz k (by omega) hk2⟩
theorem Found.new {x i heavy low : Nat} (h : Found x (i + 1) heavy low 0) (hi : i < 32) (hb : x.testBit i = true) : Found x i (heavy + 1) i (i + 1) := by
  obtain ⟨h1, h1', h2⟩ := h
  rw [wt_step, hb] at h1
  have hw := PM.wt_le x 32
  simp at h1
  refine ⟨by omega, by omega, ?_⟩
  rcases h2 with ⟨e, hl⟩ | ⟨e, hp, _⟩
  · exact .inr ⟨(shr_xor_bit x i hl hb).symm, by omega, by omega, by omega, hi, hb, fun k h1 h2 => by omega⟩
  · omega
theorem Found.more {x i heavy low size : Nat} (h : Found x (i + 1) heavy low size) (hs0 : size ≠ 0) (hi : i < 32) (hb : x.testBit i = true) : Found x i (heavy + 1) i size := by
  obtain ⟨h1, h1', h2⟩ := h
  rw [wt_step, hb] at h1
  have hw := PM.wt_le x 32
  simp at h1
  refine ⟨by omega, by omega, ?_⟩
  rcases h2 with ⟨e, hl⟩ | ⟨e, hp, hs, hl, hl2, ht, hz⟩
  · omega
  · exact .inr ⟨e, hp, hs, by omega, hi, hb, fun k h1 h2 => by omega⟩
theorem Found.nat {x i heavy low size : Nat} (h : Found x i heavy low size) : heavy ≤ 32 ∧ size ≤ 32 := by
  obtain ⟨_, h1, h2⟩ := h
  rcases h2 with ⟨e, _⟩ | ⟨_, _, hs, _⟩ <;> omega
set_option maxRecDepth 100000 in
set_option maxHeartbeats 1000000 in
theorem burstShape_any (n at_ : Int) (x : Nat) (w : World) (hx : x < 4294967296) (hn : -9223372036854775808 ≤ n ∧ n < 9223372036854775808) (ha : -9223372036854775808 ≤ at_ ∧ at_ < 9223372036854775808) :
    Calls Try.prog 5 #[.int .i64 n, .int .i64 at_, .int .u32 x] w fun e w' => e = .returned (.bool true) ∧ Below w.heap.size w w' := by
  go_enter Try.func5, Try.ntmps5
  go_wp2_with fail
  refine (awake3 w).mono ?_
  rintro e w1 ⟨rfl, hb1⟩
  have hs1 := hb1.size
  by_cases hE : mkErr n at_ x = 0
  · have hnr : ¬ (n < 0 ∨ 65536 < n) := fun h => by rw [mkErr_range h] at hE; omega
    have hbr : ¬ (x = 0 ∨ at_ < 0 ∨ 8 * n < at_ + PM.bl x) := fun h => by rw [mkErr_burst hnr h] at hE; omega
    obtain ⟨N, rfl⟩ : ∃ N : Nat, n = N := ⟨n.toNat, by omega⟩
    obtain ⟨A, rfl⟩ : ∃ A : Nat, at_ = A := ⟨at_.toNat, by omega⟩
    have hx0 : x ≠ 0 := by omega
    have hN : N ≤ 65536 := by omega
    have hfit : A + PM.bl x ≤ 8 * N := by omega
    have hM := make_good N A x w1 hx hx0 hN hfit
    have hbit := fun k => and32B x k hx
    clear hE hnr hbr hn ha
    go_wp2_with fail
    refine hM.mono ?_
    rintro e w2 ⟨v2, rfl, H2⟩
    obtain ⟨hb2, f, o2, f2, l2⟩ := H2.out
    obtain ⟨a2, c2, rfl, R2⟩ := own_row8 o2 f2
    have HB : Hid (Below w.heap.size w w2) := below_all hb1 hs1 hb2
    have h1 : PM.IsFirst (PM.fb f) (8 * N) A := (PM.ly_first hx0 hfit).congr (fun i hi => (l2 i hi).symm)
    have hF := first_said a2 N c2 f w2 R2 (by omega) A h1
    have hW := weight_row a2 N c2 f w2 R2 (by omega)
    rw [PM.cnt_congr (PM.fb f) (PM.ly A (PM.bl x) x (PM.bl x)) (8 * N) l2, PM.ly_cnt hfit hx] at hW
    have hS : Hid (∀ low, x.testBit low = true → (∀ k, k < low → x.testBit k = false) → low < PM.bl x ∧ Calls Try.prog 17 #[.slice a2 N c2] w2 fun e w' => e = .returned (.int .i64 ((PM.bl x : Int) - low)) ∧ w' = w2) := fun low hb hz => by
      obtain ⟨hlt, hl⟩ := PM.ly_last (a := A) (n := 8 * N) hfit hb hz
      refine ⟨hlt, ?_⟩
      have h := span_said a2 N c2 f w2 R2 (by omega) A _ h1 (hl.congr (fun i hi => (l2 i hi).symm))
      rw [show spn (A : Int) ((A : Int) + ((PM.bl x : Int) - 1 - low)) = (PM.bl x : Int) - low by unfold spn; rw [if_neg (by omega)]; omega] at h
      exact h
    have hbl : PM.bl x ≤ 32 := PM.bl_le (k := 32) hx
    clear hM H2 hb1 hb2 o2 f2 l2 R2 h1
    go_wp2_with fail
    go_loop [9, 10, 11, 12] (fun h l s c => ∃ i heavy low size : Nat, i ≤ 32 ∧ c = .int .i64 ((i : Int) - 1) ∧ h = .int .i64 (heavy : Nat) ∧ l = .int .i64 (low : Nat) ∧ s = .int .i64 (size : Nat) ∧ Hid (Found x i heavy low size)) (fun _ _ _ c => ((intOf c) + 1).toNat)
    case atStart => exact ⟨32, 0, 32, 0, by omega, rfl, rfl, rfl, rfl, Found.start x hx⟩
    case round =>
      obtain ⟨i, heavy, low, size, hi, rfl, rfl, rfl, rfl, HD⟩ := hrel
      have hnat := Found.nat HD.out
      have hh32 := hnat.1
      have hz32 := hnat.2
      clear hnat
      by_cases hlt : 0 < i
      · obtain ⟨k, rfl⟩ : ∃ k, i = k + 1 := ⟨i - 1, by omega⟩
        have hk : ((k + 1 : Nat) : Int) - 1 = (k : Int) := by omega
        rw [hk]
        clear hk
        have t1 := hbit k
        clear hbit hS hF hW
        cases hb : x.testBit k
        · rw [hb] at t1
          have HD2 : Hid (Found x k heavy low size) := HD.out.no hb
          clear HD
          go_wp2
          go_round
          case rel => exact ⟨k, heavy, low, size, by omega, by go_num, rfl, rfl, rfl, HD2⟩
          case measure => simp [intOf] <;> omega
        · rw [hb] at t1
          by_cases hs0 : size = 0
          · subst hs0
            have HD2 : Hid (Found x k (heavy + 1) k (k + 1)) := HD.out.new (by omega) hb
            clear HD
            go_wp2
            go_round
            case rel => exact ⟨k, heavy + 1, k, k + 1, by omega, by go_num, by go_num, by go_num, by go_num, HD2⟩
            case measure => simp [intOf] <;> omega
          · have HD2 : Hid (Found x k (heavy + 1) k size) := HD.out.more hs0 (by omega) hb
            have hsz : ((size : Int) == 0) = false := by simp; omega
            clear HD
            go_wp2
            go_round
            case rel => exact ⟨k, heavy + 1, k, size, by omega, by go_num, by go_num, by go_num, rfl, HD2⟩
            case measure => simp [intOf] <;> omega
      · obtain rfl : i = 0 := by omega
        obtain ⟨g1, g2, g3⟩ := HD.out
        rcases g3 with ⟨_, e⟩ | ⟨e, _, _, _, hl2, hb, hz⟩
        · exact absurd (by simpa using e) hx0
        · obtain ⟨hlow, hSp⟩ := hS.out low hb (fun k hk => hz k (by omega) hk)
          have hwt : PM.wt x 32 = heavy := by rw [← g1]; exact (Nat.add_zero _)
          rw [hwt] at hW
          rw [← e] at hSp hlow
          clear hS HD hbit hwt hz hb g1 g2 e
          have hle : decide ((size : Int) - (low : Int) ≤ 32) = true := by simp; omega
          go_wp2_with (first | (go_at_call 17; refine hSp.mono ?_; rintro e w' ⟨rfl, hw⟩; rw [hw]; clear hw) | (go_at_call 13; refine hF.mono ?_; rintro e w' ⟨rfl, hw⟩; rw [hw]; clear hw) | (go_at_call 19; refine hW.mono ?_; rintro e w' ⟨rfl, hw⟩; rw [hw]; clear hw))
          go_ret
          exact ⟨rfl, HB.out⟩
  · have hM := make_bad n at_ x w1 hx hn ha hE
    have HB : Hid (Below w.heap.size w w1) := hb1
    have hE2 : (mkErr n at_ x != 0) = true := by simp [hE]
    clear hb1 hE
    generalize mkErr n at_ x = E at *
    go_wp2_with fail
    refine hM.mono ?_
    rintro e w2 ⟨rfl, rfl⟩
    go_wp2_with fail
    go_ret
    exact ⟨rfl, HB.out⟩
theorem burstShape_walk (a0 : Int) (a1 : Int) (a2 : Int) (w0 : (Lit.int .i64 a0).wf = true) (w1 : (Lit.int .i64 a1).wf = true) (w2 : (Lit.int .u32 a2).wf = true) (w : World) :
    Calls Try.prog 5 #[.int .i64 a0, .int .i64 a1, .int .u32 a2] w fun e w' => e = .returned (.bool true) ∧ Below w.heap.size w w' := by
  obtain ⟨x, rfl, hx⟩ := nat32B w2
  have h0 := bounds_i64 w0
  have h1 := bounds_i64 w1
  exact burstShape_any a0 a1 x w hx (by omega) (by omega)

end Go.Proofs.Ytboeefphjjgbpaa
