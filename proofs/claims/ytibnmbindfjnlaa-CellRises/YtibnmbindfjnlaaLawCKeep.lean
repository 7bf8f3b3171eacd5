/- Layer 8: a cell that is opened again has the number that was given last. -/
import Derived.Test.YtibnmbindfjnlaaLawCEx
namespace Go.Proofs.Ytibnmbindfjnlaa
open Go.RowKit

/-- Next of a memory that is armed: enough writes are left, or not. -/
theorem next_left (c m g n mx : Nat) (z : Nat → Nat) (l t : Int) (w : World) (hM : MR w m g n ⟨z, false, true, l, t⟩) (hC : CS w c m mx z false) (hcm : c ≠ m) (hcg : c ≠ g) (hn : 10 ≤ n) (hx : mx < 4294967296) (h : vz z < mx) (ht : t < 9223372036854775000) (hl : 6 ≤ l) :
    Calls Try.prog 17 #[.pointer (some ⟨c, 0, none⟩)] w fun e w' => e = .returned (.tuple #[.int .u32 ((vz z + 1 : Nat) : Int), .int .i64 0]) ∧
      (Off [m, g, c] w w' ∧ MR w' m g n ⟨lays (six (tg z) (vz z + 1)) z, false, true, l - 6, t + 6⟩ ∧ CS w' c m mx (lays (six (tg z) (vz z + 1)) z) false) := by
  have q := next_go c m g n mx _ w hM hC hcm hcg hn hx rfl h ht
  have hin := six_in (tg z) (vz z + 1) n (tg_lt z) hn
  rcases sq_all n (six (tg z) (vz z + 1)) ⟨z, false, true, l, t⟩ (fun x hx => (hin x hx).1) rfl (by show 0 ≤ l; omega) with ⟨hE, hS, _⟩ | ⟨_, _, _, h4⟩
  · simp only at hE hS q
    rw [hE, hS, if_pos rfl] at q
    refine q.mono ?_
    rintro e w' ⟨rfl, o, M, C, _⟩
    exact ⟨rfl, o, M, C rfl⟩
  · have h5 : l < 6 := h4
    omega
theorem next_short (c m g n mx : Nat) (z : Nat → Nat) (l t : Int) (w : World) (hM : MR w m g n ⟨z, false, true, l, t⟩) (hC : CS w c m mx z false) (hcm : c ≠ m) (hcg : c ≠ g) (hn : 10 ≤ n) (hx : mx < 4294967296) (h : vz z < mx) (ht : t < 9223372036854775000) (hl : l < 6) :
    Calls Try.prog 17 #[.pointer (some ⟨c, 0, none⟩)] w fun e w' => e = .returned (.tuple #[.int .u32 0, .int .i64 70]) ∧
      (Off [m, g, c] w w' ∧ MR w' m g n ⟨lays ((six (tg z) (vz z + 1)).take l.toNat) z, true, true, 0, t + l⟩ ∧ CS w' c m mx z true) := by
  have q := next_go c m g n mx _ w hM hC hcm hcg hn hx rfl h ht
  have hin := six_in (tg z) (vz z + 1) n (tg_lt z) hn
  rcases sq_all n (six (tg z) (vz z + 1)) ⟨z, false, true, l, t⟩ (fun x hx => (hin x hx).1) rfl hM.l0 with ⟨_, _, h3⟩ | ⟨hE, hS, _, _⟩
  · have h5 : (6 : Int) ≤ l := h3 rfl
    omega
  · simp only at hE hS q
    rw [hE, hS, if_neg (by omega)] at q
    refine q.mono ?_
    rintro e w' ⟨rfl, o, M, _, C⟩
    exact ⟨rfl, o, M, C (by omega)⟩
set_option maxRecDepth 100000 in
set_option maxHeartbeats 4000000 in
theorem keeps_any (a0 a1 : Int) (w : World) (_h0 : -9223372036854775808 ≤ a0 ∧ a0 ≤ 9223372036854775807) (_h1 : -9223372036854775808 ≤ a1 ∧ a1 ≤ 9223372036854775807) :
    Calls Try.prog 5 #[.int .i64 a0, .int .i64 a1] w fun e w' => e = .returned (.bool true) ∧ Below w.heap.size w w' := by
  go_enter Try.func5, Try.ntmps5
  go_wp2_with fail
  refine (awake8 w).mono ?_
  rintro e w0 ⟨rfl, b0⟩
  go_wp2_with fail
  refine (new_ok 10 w0 (by omega)).mono ?_
  rintro e w1 ⟨b, g, rfl, H1⟩
  obtain ⟨hb, hg, o1, m1⟩ := H1.out
  have b1 : Below w.heap.size w w1 := o1.below b0 (by simp) b0.size
  have s0 := b0.size
  have lb := m1.lt
  have lg := m1.lg
  have HB : Hid (_) := And.intro (show w.heap.size ≤ b by omega) (show w.heap.size ≤ g by omega)
  clear H1 o1 hb hg b0 s0
  go_wp2_with fail
  refine (open_free b g 10 2147483648 (fun _ => 0) 0 0 w1 m1 (by omega) (by omega) (by omega)).mono ?_
  rintro e w2 ⟨rfl, o2, m2, c2⟩
  have b2 : Below w.heap.size w w2 := byOff b1 o2 (by have := HB.out; simp; omega) (Nat.le_refl _)
  have hc : w.heap.size ≤ w1.heap.size := b1.size
  rw [show lays (mend fun _ => 0) (fun _ => 0) = (fun _ => 0) from rfl, show (0 : Int) + ((mend fun _ => 0).length : Nat) = 0 from rfl] at m2
  rw [show lays (mend fun _ => 0) (fun _ => 0) = (fun _ => 0) from rfl] at c2
  clear o2 m1 b1
  obtain ⟨c, hcd⟩ : ∃ c, w1.heap.size = c := ⟨_, rfl⟩
  rw [hcd] at lb lg c2 hc ⊢
  clear hcd w1
  have k1 : -40 < a0.tmod 40 ∧ a0.tmod 40 < 40 := ⟨Int.lt_tmod_of_pos _ (by omega), Int.tmod_lt_of_pos _ (by omega)⟩
  go_wp2_with fail
  go_loopw [4, 8, 9, 10] (fun _ ce cw ci wr => ∃ (i : Nat) (z : Nat → Nat), i ≤ 40 ∧ ci = .int .i64 ((i : Nat) : Int) ∧ ce = .int .i64 0 ∧ cw = .int .u32 ((i : Nat) : Int) ∧ vz z = i ∧ MR wr b g 10 ⟨z, false, false, 0, 6 * (i : Int)⟩ ∧ CS wr c b 2147483648 z false ∧ Below w.heap.size w wr) (fun _ _ _ ci _ => 40 - (intOf ci).toNat)
  case atStart => exact ⟨0, _, by omega, rfl, rfl, rfl, rfl, m2, c2, b2⟩
  case round =>
    clear m2 c2 b2
    obtain ⟨i, z, hi, rfl, rfl, rfl, hv, m1, c1, b1⟩ := hrel
    by_cases hlt : (i : Int) < a0.tmod 40
    · have q := next_free c b g 10 2147483648 z 0 _ wr m1 c1 (by omega) (by omega) (by omega) (by omega) (by omega) (by omega)
      rw [hv] at q
      have hv2 : vz (lays (six (tg z) (i + 1)) z) = i + 1 := vz_next z (i + 1) (by omega) (by omega)
      have HV : Hid (_) := hv2
      clear m1 c1 hv hv2
      go_wp2_with fail
      refine q.mono ?_
      rintro e w3 ⟨rfl, o3, m3, c3⟩
      have b3 : Below w.heap.size w w3 := byOff b1 o3 (by have := HB.out; simp; omega) (Nat.le_refl _)
      have H : Hid (_) := And.intro m3 (And.intro c3 b3)
      clear m3 c3 b3 o3 q b1
      go_wp2_with fail
      go_roundw
      case rel => exact ⟨i + 1, _, by omega, by go_num, rfl, by go_num, HV.out, by rw [show 6 * ((i + 1 : Nat) : Int) = 6 * (i : Int) + 6 by omega]; exact H.out.1, H.out.2⟩
      case measure => simp [intOf] <;> omega
    · by_cases hneg : a1 < 0
      · have hz : Bz z := fun j hj => m1.byte j hj
        have q4 := open_free b g 10 2147483648 z 0 _ wr m1 (by omega) (by omega) (by omega)
        have hv3 := (vz_mended z hz).trans hv
        have HV : Hid (_) := hv3
        clear m1 c1 hv hz hv3
        go_wp2_with fail
        refine q4.mono ?_
        rintro e w4 ⟨rfl, o4, m4, c4⟩
        have b4 : Below w.heap.size w w4 := byOff b1 o4 (by have := HB.out; simp; omega) (Nat.le_refl _)
        have hz4 : Bz (lays (mend z) z) := fun j hj => m4.byte j hj
        have q5 := value_z _ b _ _ false w4 c4 hz4
        rw [HV.out] at q5
        have HB4 : Hid (_) := b4
        clear b4 m4 c4 o4 q4 hz4 HV b1
        go_wp2_with (go_at_call 16; refine q5.mono ?_; rintro e w' ⟨rfl, hw⟩; rw [hw]; clear hw)
        go_ret
        exact ⟨rfl, HB4.out⟩
      · obtain ⟨l, hl, hl8⟩ : ∃ l : Nat, a1.tmod 8 = (l : Int) ∧ l < 8 := by
          have e1 := Int.tmod_eq_emod_of_nonneg (b := 8) (show 0 ≤ a1 by omega)
          refine ⟨(a1 % 8).toNat, ?_, ?_⟩ <;> omega
        have qa := arm_any b g 10 _ (l : Nat) wr m1 (by omega)
        rw [show arE ((l : Nat) : Int) = 0 from if_neg (by omega), show arS ⟨z, false, false, 0, 6 * (i : Int)⟩ ((l : Nat) : Int) = ⟨z, false, true, (l : Nat), 6 * (i : Int)⟩ from if_neg (by omega)] at qa
        have HC : Hid (_) := And.intro c1 hv
        clear m1 c1 hv
        go_wp2_with fail
        refine qa.mono ?_
        rintro e w3 ⟨rfl, o3, m3⟩
        have b3 : Below w.heap.size w w3 := byOff b1 o3 (by have := HB.out; simp; omega) (Nat.le_refl _)
        obtain ⟨c1, hv⟩ := HC.out
        have c3 := c1.off o3 (by simp; omega)
        clear qa o3 b1 c1 HC
        by_cases h6 : 6 ≤ l
        · have q := next_left c b g 10 2147483648 z _ _ w3 m3 c3 (by omega) (by omega) (by omega) (by omega) (by omega) (by omega) (by omega)
          rw [hv] at q
          have hv2 : vz (lays (six (tg z) (i + 1)) z) = i + 1 := vz_next z (i + 1) (by omega) (by omega)
          generalize lays (six (tg z) (i + 1)) z = z2 at *
          have H6 : (6 : Int) ≤ (l : Int) := by omega
          clear m3 c3 hv
          go_wp2_with fail
          refine q.mono ?_
          rintro e w4 ⟨rfl, o4, m4, _⟩
          have b4 : Below w.heap.size w w4 := byOff b3 o4 (by have := HB.out; simp; omega) (Nat.le_refl _)
          clear o4 b3 q
          go_wp2_with fail
          refine (on_any b g 10 _ w4 m4).mono ?_
          rintro e w5 ⟨rfl, o5, m5⟩
          have b5 : Below w.heap.size w w5 := byOff b4 o5 (by have := HB.out; simp; omega) (Nat.le_refl _)
          simp only at m5
          have hz5 : Bz z2 := fun j hj => m5.byte j hj
          have q4 := open_free b g 10 2147483648 _ _ _ w5 m5 (by omega) (by omega) (by omega)
          have HV : Hid (_) := (vz_mended z2 hz5).trans hv2
          clear m5 m4 o5 b4 hz5 hv2
          go_wp2_with fail
          refine q4.mono ?_
          rintro e w6 ⟨rfl, o6, m6, c6⟩
          have b6 : Below w.heap.size w w6 := byOff b5 o6 (by have := HB.out; simp; omega) (Nat.le_refl _)
          have hz6 : Bz (lays (mend z2) z2) := fun j hj => m6.byte j hj
          have q5 := value_z _ b _ _ false w6 c6 hz6
          rw [HV.out] at q5
          have HB6 : Hid (_) := b6
          clear b6 m6 c6 o6 q4 hz6 HV b5
          go_wp2_with (go_at_call 16; refine q5.mono ?_; rintro e w' ⟨rfl, hw⟩; rw [hw]; clear hw)
          go_ret
          exact ⟨rfl, HB6.out⟩
        · have q := next_short c b g 10 2147483648 z _ _ w3 m3 c3 (by omega) (by omega) (by omega) (by omega) (by omega) (by omega) (by omega)
          have hv2 := (vz_cut z (vz z + 1) (l : Int).toNat (by omega)).trans hv
          generalize lays ((six (tg z) (vz z + 1)).take (l : Int).toNat) z = z2 at *
          have H6 : ¬ (6 : Int) ≤ (l : Int) := by omega
          clear m3 c3 hv
          go_wp2_with fail
          refine q.mono ?_
          rintro e w4 ⟨rfl, o4, m4, _⟩
          have b4 : Below w.heap.size w w4 := byOff b3 o4 (by have := HB.out; simp; omega) (Nat.le_refl _)
          clear o4 b3 q
          go_wp2_with fail
          refine (on_any b g 10 _ w4 m4).mono ?_
          rintro e w5 ⟨rfl, o5, m5⟩
          have b5 : Below w.heap.size w w5 := byOff b4 o5 (by have := HB.out; simp; omega) (Nat.le_refl _)
          simp only at m5
          have hz5 : Bz z2 := fun j hj => m5.byte j hj
          have q4 := open_free b g 10 2147483648 _ _ _ w5 m5 (by omega) (by omega) (by omega)
          have HV : Hid (_) := (vz_mended z2 hz5).trans hv2
          clear m5 m4 o5 b4 hz5 hv2
          go_wp2_with fail
          refine q4.mono ?_
          rintro e w6 ⟨rfl, o6, m6, c6⟩
          have b6 : Below w.heap.size w w6 := byOff b5 o6 (by have := HB.out; simp; omega) (Nat.le_refl _)
          have hz6 : Bz (lays (mend z2) z2) := fun j hj => m6.byte j hj
          have q5 := value_z _ b _ _ false w6 c6 hz6
          rw [HV.out] at q5
          have HB6 : Hid (_) := b6
          clear b6 m6 c6 o6 q4 hz6 HV b5
          go_wp2_with (go_at_call 16; refine q5.mono ?_; rintro e w' ⟨rfl, hw⟩; rw [hw]; clear hw)
          go_ret
          exact ⟨rfl, HB6.out⟩
theorem cellKeeps_walk (a0 a1 : Int) (w0 : (Lit.int .i64 a0).wf = true) (w1 : (Lit.int .i64 a1).wf = true) (w : World) :
    Calls Try.prog 5 #[.int .i64 a0, .int .i64 a1] w fun e w' => e = .returned (.bool true) ∧ Below w.heap.size w w' := by
  have h0 := bounds_i64 w0
  have h1 := bounds_i64 w1
  exact keeps_any a0 a1 w h0 h1

end Go.Proofs.Ytibnmbindfjnlaa
