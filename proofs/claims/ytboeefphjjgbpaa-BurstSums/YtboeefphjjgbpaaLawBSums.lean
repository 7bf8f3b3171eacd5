/- The walk of the statement BurstSums. -/
import Derived.Test.YtboeefphjjgbpaaLawTurn
import Derived.Deep.RegionWith
import Derived.Deep.DeepCutAuto
namespace Go.Proofs.Ytboeefphjjgbpaa
open Go.RowKit
theorem Row8.drew1 {w : World} {a : Option Addr} {len cap : Nat} {bs : Nat → Nat} (h : Row8 w a len cap bs) : Row8 w.drew a len cap bs := h.below (Below.refl _ _).drew
set_option maxRecDepth 100000 in
theorem burstSums_long (a0 : Option Addr) (len0 cap0 : Nat) (a1 : Option Addr) (len1 cap1 : Nat) (a2 : Option Addr) (len2 cap2 : Nat) (w : World)
    (hn4 : 4000 < min (min len0 len1) len2) :
    Calls Try.prog 8 #[.slice a0 len0 cap0, .slice a1 len1 cap1, .slice a2 len2 cap2] w fun e w' => e = .returned (.bool true) ∧ Below w.heap.size w w' := by
  go_enter Try.func8, Try.ntmps8
  go_wp2_with fail
  refine (awake3 w).mono ?_
  rintro e w1 ⟨rfl, hb1⟩
  go_upto_if 27 with fail
  go_cut [7] (fun s wx => s = .int .i64 (min len0 len1 : Nat) ∧ wx = w1)
  case first =>
    clear hn4
    by_cases h : len1 < len0
    · go_wp2
      go_meet
      case rel => exact ⟨by rw [Nat.min_eq_right (by omega)], rfl⟩
    · go_wp2
      go_meet
      case rel => exact ⟨by rw [Nat.min_eq_left (by omega)], rfl⟩
  case rest =>
    obtain ⟨rfl, rfl⟩ := hcut
    obtain ⟨n, hn⟩ : ∃ n, n = min len0 len1 := ⟨_, rfl⟩
    rw [← hn] at hn4 ⊢
    clear hn
    go_upto_if 33 with fail
    go_cut [7] (fun s wx => s = .int .i64 (min n len2 : Nat) ∧ wx = wc)
    case first =>
      clear hn4
      by_cases h : len2 < n
      · go_wp2
        go_meet
        case rel => exact ⟨by rw [Nat.min_eq_right (by omega)], rfl⟩
      · go_wp2
        go_meet
        case rel => exact ⟨by rw [Nat.min_eq_left (by omega)], rfl⟩
    case rest =>
      obtain ⟨rfl, rfl⟩ := hcut
      obtain ⟨m, hm⟩ : ∃ m, m = min n len2 := ⟨_, rfl⟩
      rw [← hm] at hn4 ⊢
      clear hm
      go_wp2
      go_ret
      exact ⟨rfl, hb1⟩
set_option maxRecDepth 100000 in
set_option maxHeartbeats 1000000 in
theorem burstSums_any (a0 : Option Addr) (len0 cap0 : Nat) (a1 : Option Addr) (len1 cap1 : Nat) (a2 : Option Addr) (len2 cap2 : Nat) (f g h : Nat → Nat) (w : World) (r0 : Row8 w a0 len0 cap0 f) (r1 : Row8 w a1 len1 cap1 g) (r2 : Row8 w a2 len2 cap2 h)
    (hn4 : min (min len0 len1) len2 ≤ 4000) :
    Calls Try.prog 8 #[.slice a0 len0 cap0, .slice a1 len1 cap1, .slice a2 len2 cap2] w fun e w' => e = .returned (.bool true) ∧ Below w.heap.size w w' := by
  have hc0 := r0.le
  have hc1 := r1.le
  have hc2 := r2.le
  go_enter Try.func8, Try.ntmps8
  go_wp2_with fail
  refine (awake3 w).mono ?_
  rintro e w1 ⟨rfl, hb1⟩
  go_upto_if 27 with fail
  go_cut [7] (fun s wx => s = .int .i64 (min len0 len1 : Nat) ∧ wx = w1)
  case first =>
    clear hn4
    by_cases h : len1 < len0
    · go_wp2
      go_meet
      case rel => exact ⟨by rw [Nat.min_eq_right (by omega)], rfl⟩
    · go_wp2
      go_meet
      case rel => exact ⟨by rw [Nat.min_eq_left (by omega)], rfl⟩
  case rest =>
    obtain ⟨rfl, rfl⟩ := hcut
    obtain ⟨m, hm⟩ : ∃ m, m = min len0 len1 := ⟨_, rfl⟩
    rw [← hm] at hn4 ⊢
    have hm0 : m ≤ len0 := by omega
    have hm1 : m ≤ len1 := by omega
    clear hm
    go_upto_if 33 with fail
    go_cut [7] (fun s wx => s = .int .i64 (min m len2 : Nat) ∧ wx = wc)
    case first =>
      clear hn4
      by_cases h : len2 < m
      · go_wp2
        go_meet
        case rel => exact ⟨by rw [Nat.min_eq_right (by omega)], rfl⟩
      · go_wp2
        go_meet
        case rel => exact ⟨by rw [Nat.min_eq_left (by omega)], rfl⟩
    case rest =>
      obtain ⟨rfl, rfl⟩ := hcut
      obtain ⟨n, hn⟩ : ∃ n, n = min m len2 := ⟨_, rfl⟩
      rw [← hn] at hn4 ⊢
      have hn0 : n ≤ len0 := by omega
      have hn1 : n ≤ len1 := by omega
      have hn2 : n ≤ len2 := by omega
      have hs1 := hb1.size
      clear hn hm0 hm1
      obtain ⟨wa, rfl⟩ : ∃ x, x = wc := ⟨_, rfl⟩
      have p0 := r0.upto n hn0
      have p1 := r1.upto n hn1
      have p2 := r2.upto n hn2
      have b0 := p0.byte
      have b1 := p1.byte
      have b2 := p2.byte
      have hT := turn_good a0 a1 n cap0 cap1 f g wa.drew (p0.below hb1).drew1 (p1.below hb1).drew1 (by omega)
      have HP : Hid (_) := And.intro p0 (And.intro p1 (And.intro p2 (And.intro b0 (And.intro b1 b2))))
      have HB1 : Hid (Below w.heap.size w wa) := hb1
      clear r0 r1 r2 p0 p1 p2 b0 b1 b2 hb1
      go_upto_region 10 with fail
      go_cut [8, 9] (fun v e wx => ∃ gx c, v = .slice (some ⟨gx, 0, none⟩) n c ∧ e = .int .i64 0 ∧ Hid (Below wa.heap.size wa wx ∧ Row8 wx (some ⟨gx, 0, none⟩) n c (xr f g)))
      case first =>
        go_region_with (go_at_call 22; refine hT.mono ?_; rintro e w2 ⟨c2, rfl, H2⟩)
        all_goals (go_wp2_with fail; go_meet; exact ⟨_, _, rfl, rfl, (Below.refl _ _).drew.trans H2.out.1, turned_row H2.out.2 (xr_lt HP.out.2.2.2.1 HP.out.2.2.2.2.1)⟩)
      case rest =>
        obtain ⟨g1, c1, rfl, rfl, H1⟩ := hcut
        clear hT
        obtain ⟨wb, rfl⟩ : ∃ x, x = wc := ⟨_, rfl⟩
        have HBb : Hid (Below w.heap.size w wb) := below_all HB1.out hs1 H1.out.1
        have hsb := HBb.out.size
        have hT2 := turn_good _ a2 n c1 cap2 (xr f g) h wb H1.out.2 (HP.out.2.2.1.below HBb.out) (by omega)
        clear HB1 hs1 H1
        go_wp2_with fail
        refine hT2.mono ?_
        rintro e wd ⟨c2, rfl, H2⟩
        have q2 := turned_row H2.out.2 (xr_lt (xr_lt HP.out.2.2.2.1 HP.out.2.2.2.2.1) HP.out.2.2.2.2.2)
        have HBd : Hid (Below w.heap.size w wd) := below_all HBb.out hsb H2.out.1
        have hsd := HBd.out.size
        have HQ2 : Hid (_) := q2
        have hT3 := turn_good a0 a2 n cap0 cap2 f h wd.drew (HP.out.1.below HBd.out).drew1 (HP.out.2.2.1.below HBd.out).drew1 (by omega)
        obtain ⟨g2, hg2⟩ : ∃ x, x = wb.heap.size := ⟨_, rfl⟩
        rw [← hg2] at HQ2 ⊢
        clear hT2 q2 H2 hsb HBb hg2
        go_upto_region 12 with fail
        go_cut [12, 13] (fun v e wx => ∃ gx c, v = .slice (some ⟨gx, 0, none⟩) n c ∧ e = .int .i64 0 ∧ Hid (Below wd.heap.size wd wx ∧ Row8 wx (some ⟨gx, 0, none⟩) n c (xr f h)))
        case first =>
          go_region_with (go_at_call 22; refine hT3.mono ?_; rintro e w2 ⟨c2, rfl, H2⟩)
          all_goals (go_wp2_with fail; go_meet; exact ⟨_, _, rfl, rfl, (Below.refl _ _).drew.trans H2.out.1, turned_row H2.out.2 (xr_lt HP.out.2.2.2.1 HP.out.2.2.2.2.2)⟩)
        case rest =>
          obtain ⟨g3, c3, rfl, rfl, H3⟩ := hcut
          clear hT3
          obtain ⟨we, rfl⟩ : ∃ x, x = wc := ⟨_, rfl⟩
          have HBe : Hid (Below w.heap.size w we) := below_all HBd.out hsd H3.out.1
          have HQ2e : Hid (Row8 we (some ⟨g2, 0, none⟩) n c2 (xr (xr f g) h)) := HQ2.out.below H3.out.1
          have hse := HBe.out.size
          have hT4 := turn_good _ a1 n c3 cap1 (xr f h) g we H3.out.2 (HP.out.2.1.below HBe.out) (by omega)
          clear HBd hsd H3 HQ2
          go_wp2_with fail
          refine hT4.mono ?_
          rintro e wf ⟨c4, rfl, H4⟩
          have HQ4 : Hid (_) := turned_row H4.out.2 (xr_lt (xr_lt HP.out.2.2.2.1 HP.out.2.2.2.2.2) HP.out.2.2.2.2.1)
          have HQ2f : Hid (_) := HQ2e.out.below H4.out.1
          have HBf : Hid (Below w.heap.size w wf) := below_all HBe.out hse H4.out.1
          have hsf := HBf.out.size
          have hT5 := turn_good a1 a2 n cap1 cap2 g h wf.drew (HP.out.2.1.below HBf.out).drew1 (HP.out.2.2.1.below HBf.out).drew1 (by omega)
          obtain ⟨g4, hg4⟩ : ∃ x, x = we.heap.size := ⟨_, rfl⟩
          rw [← hg4] at HQ4 ⊢
          clear hT4 H4 hse HBe hg4 HQ2e
          go_upto_region 14 with fail
          go_cut [16, 17] (fun v e wx => ∃ gx c, v = .slice (some ⟨gx, 0, none⟩) n c ∧ e = .int .i64 0 ∧ Hid (Below wf.heap.size wf wx ∧ Row8 wx (some ⟨gx, 0, none⟩) n c (xr g h)))
          case first =>
            go_region_with (go_at_call 22; refine hT5.mono ?_; rintro e w2 ⟨c2, rfl, H2⟩)
            all_goals (go_wp2_with fail; go_meet; exact ⟨_, _, rfl, rfl, (Below.refl _ _).drew.trans H2.out.1, turned_row H2.out.2 (xr_lt HP.out.2.2.2.2.1 HP.out.2.2.2.2.2)⟩)
          case rest =>
            obtain ⟨g5, c5, rfl, rfl, H5⟩ := hcut
            clear hT5
            obtain ⟨wg, rfl⟩ : ∃ x, x = wc := ⟨_, rfl⟩
            have HBg : Hid (Below w.heap.size w wg) := below_all HBf.out hsf H5.out.1
            have HQ2g : Hid (_) := HQ2f.out.below H5.out.1
            have HQ4g : Hid (_) := HQ4.out.below H5.out.1
            have hsg := HBg.out.size
            have hT6 := turn_good a0 _ n cap0 c5 f (xr g h) wg (HP.out.1.below HBg.out) H5.out.2 (by omega)
            clear HBf hsf H5 HQ2f HQ4
            go_wp2_with fail
            refine hT6.mono ?_
            rintro e wh ⟨c6, rfl, H6⟩
            have q6 := turned_row H6.out.2 (xr_lt HP.out.2.2.2.1 (xr_lt HP.out.2.2.2.2.1 HP.out.2.2.2.2.2))
            have q2 := (HQ2g.out.below H6.out.1).congr (cs := xr f (xr g h)) (fun i _ => xr_two f g h i)
            have q4 := (HQ4g.out.below H6.out.1).congr (cs := xr f (xr g h)) (fun i _ => xr_other f g h i)
            have HB : Hid (Below w.heap.size w wh) := below_all HBg.out hsg H6.out.1
            have k2 := conv_any _ _ _ _ wh q2
            have k4 := conv_any _ _ _ _ wh q4
            have k6 := conv_any _ _ _ _ wh q6
            clear hT6 H6 hsg HBg HQ2g HQ4g q2 q4 q6 HP
            generalize BA (xr f (xr g h)) n = X at *
            go_wp2_with fail
            go_ret
            exact ⟨rfl, HB.out⟩
theorem burstSums_walk (a0 : Option Addr) (len0 cap0 : Nat) (z0 : List Int) (a1 : Option Addr) (len1 cap1 : Nat) (z1 : List Int) (a2 : Option Addr) (len2 cap2 : Nat) (z2 : List Int) (w : World) (w0 : BRow .u8 w a0 len0 cap0 z0) (w1 : BRow .u8 w a1 len1 cap1 z1) (w2 : BRow .u8 w a2 len2 cap2 z2) :
    Calls Try.prog 8 #[.slice a0 len0 cap0, .slice a1 len1 cap1, .slice a2 len2 cap2] w fun e w' => e = .returned (.bool true) ∧ Below w.heap.size w w' := by
  by_cases h : min (min len0 len1) len2 ≤ 4000
  · exact burstSums_any a0 len0 cap0 a1 len1 cap1 a2 len2 cap2 _ _ _ w w0.row8 w1.row8 w2.row8 h
  · exact burstSums_long a0 len0 cap0 a1 len1 cap1 a2 len2 cap2 w (by omega)

end Go.Proofs.Ytboeefphjjgbpaa
