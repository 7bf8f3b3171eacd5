/- Layer 7: MemCuts: armed with n, just n writes are done; then the power is off till On. -/
import Derived.Test.YtodngejamocmdaaMm4
import Derived.Test.YtodngejamocmdaaRown
import Derived.Test.YtodngejamocmdaaHold
namespace Go.Proofs.Ytodngejamocmdaa
open Go.RowKit
set_option maxRecDepth 100000 in
set_option maxHeartbeats 2000000 in
theorem cuts_out (a0 : Option Addr) (len0 cap0 : Nat) (n : Int) (a2 : Option Addr) (len2 cap2 : Nat) (w : World) (h : len0 < 1 ∨ 4096 < len0 ∨ n < 0 ∨ 300 < n ∨ 400 < len2) :
    Calls Try.prog 4 #[.slice a0 len0 cap0, .int .i64 n, .slice a2 len2 cap2] w fun e w' => e = .returned (.bool true) ∧ Below w.heap.size w w' := by
  by_cases h1 : len0 < 1
  · have i1 : (len0 : Int) < 1 := by omega
    clear h
    go_enter Try.func4, Try.ntmps4
    go_wp2_with fail
    refine (awake7 w).mono ?_
    rintro e w1 ⟨rfl, b1⟩
    go_wp2_with fail
    go_ret
    exact ⟨rfl, b1⟩
  · have i1 : ¬ (len0 : Int) < 1 := by omega
    by_cases h2 : 4096 < len0
    · have i2 : (4096 : Int) < (len0 : Int) := by omega
      clear h
      go_enter Try.func4, Try.ntmps4
      go_wp2_with fail
      refine (awake7 w).mono ?_
      rintro e w1 ⟨rfl, b1⟩
      go_wp2_with fail
      go_ret
      exact ⟨rfl, b1⟩
    · have i2 : ¬ (4096 : Int) < (len0 : Int) := by omega
      by_cases h3 : n < 0
      · clear h
        go_enter Try.func4, Try.ntmps4
        go_wp2_with fail
        refine (awake7 w).mono ?_
        rintro e w1 ⟨rfl, b1⟩
        go_wp2_with fail
        go_ret
        exact ⟨rfl, b1⟩
      · by_cases h4 : 300 < n
        · clear h
          go_enter Try.func4, Try.ntmps4
          go_wp2_with fail
          refine (awake7 w).mono ?_
          rintro e w1 ⟨rfl, b1⟩
          go_wp2_with fail
          go_ret
          exact ⟨rfl, b1⟩
        · have h5 : 400 < len2 := by omega
          have i5 : (400 : Int) < (len2 : Int) := by omega
          clear h
          go_enter Try.func4, Try.ntmps4
          go_wp2_with fail
          refine (awake7 w).mono ?_
          rintro e w1 ⟨rfl, b1⟩
          go_wp2_with fail
          go_ret
          exact ⟨rfl, b1⟩
theorem own_off {l : List Nat} {w w' : World} {B e n G c : Nat} {xs : List Value} (h : w.ownsRow B e 1 (.slice (some ⟨G, 0, none⟩) n c) n xs) (q : Off l w w') (hg : G ∉ l) : w'.ownsRow B e 1 (.slice (some ⟨G, 0, none⟩) n c) n xs := by
  refine ⟨h.1, ?_⟩
  rcases h.2 with hn | ⟨g', cap, cur, hv, hg0, hgg, rest⟩
  · exact .inl hn
  · have hv' := hv
    simp only [Value.slice.injEq, Option.some.injEq, Addr.mk.injEq, and_true, true_and] at hv'
    obtain ⟨rfl, rfl⟩ := hv'
    exact .inr ⟨_, _, cur, hv, hg0, (q.block _ (Array.getElem?_eq_some_iff.1 hgg).1 hg).trans hgg, rest⟩
/-- Armed, and none left: whatever the power, the write is cut. -/
theorem wr_full {s : Ms} {n : Nat} {p c : Nat} (hp : p < n) (ha : s.ar = true) (hl : s.l = 0) : wrE s n (p : Nat) = 70 ∧ wrS s n (p : Nat) c = { s with off := true } := by
  cases ho : s.off
  · exact wr_cut (by unfold rch; rw [if_neg (by simp [ho]), if_neg (by omega)]) ha hl
  · have hr : rch s n (p : Nat) = 70 := by unfold rch; rw [if_pos ho]
    obtain ⟨e1, e2⟩ := wr_no (s := s) (n := n) (p := (p : Nat)) (c := c) (by rw [hr]; decide)
    refine ⟨e1.trans hr, e2.trans ?_⟩
    cases s
    simp only at ho
    subst ho
    rfl
theorem rch_in {s : Ms} {n p : Nat} (hp : p < n) (ho : s.off = false) : rch s n (p : Nat) = 0 := by
  unfold rch
  rw [if_neg (by simp [ho]), if_neg (by omega)]
set_option maxRecDepth 100000 in
set_option maxHeartbeats 4000000 in
theorem cuts_good (a0 : Option Addr) (len0 cap0 : Nat) (bs : Nat → Nat) (N : Nat) (a2 : Option Addr) (len2 cap2 : Nat) (z : Nat → Int) (w : World) (R : Row8 w a0 len0 cap0 bs) (h1 : 1 ≤ len0) (h2 : len0 ≤ 4096) (hN : N ≤ 300) (hP : len2 ≤ 400)
    (hz : 0 < len2 → ∃ q off, a2 = some ⟨q, off, none⟩ ∧ q < w.heap.size ∧ ∀ i, i < len2 → w.cell? ⟨q, off + i, none⟩ = some (.int .i64 (z i))) :
    Calls Try.prog 4 #[.slice a0 len0 cap0, .int .i64 (N : Nat), .slice a2 len2 cap2] w fun e w' => e = .returned (.bool true) ∧ Below w.heap.size w w' := by
  obtain ⟨i0, hi, hz0, hz1, hz2⟩ := info_parts info_u8
  have i1 : ¬ (len0 : Int) < 1 := by omega
  have i2 : ¬ (4096 : Int) < (len0 : Int) := by omega
  have i4 : ¬ (300 : Int) < (N : Int) := by omega
  have i5 : ¬ (400 : Int) < (len2 : Int) := by omega
  have hby := R.byte
  go_enter Try.func4, Try.ntmps4
  go_wp2_with fail
  refine (awake7 w).mono ?_
  rintro e w1 ⟨rfl, b1⟩
  have k1 := b1.size
  have RA := (R.below b1).below ((Below.refl _ _).alloc (Nat.le_refl _) (.cells #[] 5))
  have hbelA : Below w1.heap.size w1 (w1.alloc (.cells #[] 5)) := (Below.refl _ _).alloc (Nat.le_refl _) _
  have O0 : (w1.alloc (.cells #[] 5)).ownsRow w1.heap.size 5 1 (.slice (some ⟨w1.heap.size, 0, none⟩) 0 0) 0 [] := World.ownsRow_made w1 #[] 0 (Nat.le_refl _) (Nat.zero_le _) rfl
  have hszA := hbelA.size
  go_wp2_with (at_builtin; refine wpList_append_row8 rfl (.tmp 37) (.tmp 38) 22 rfl w1.heap.size 5 i0 (.int .u8 0) Try.underlying22 hi hz0 hz1 hz2 rfl _ 0 _ rfl O0 a0 len0 cap0 bs rfl RA (by unfold maxLen; omega) (by omega) hszA ?_)
  intro v2 w2 hown2 hgrow2
  have hbel2 : Below w1.heap.size w1 w2 := hbelA.grown hgrow2 hszA (fun j hj => (O0.lt j hj).1)
  obtain ⟨a3, c3, rfl, R3⟩ := own_row8 hown2 hby
  have b2 : Below w.heap.size w w2 := b1.trans (hbel2.mono k1)
  have k2 := b2.size
  clear hown2 hgrow2 O0 RA hbelA hbel2 hszA b1 k1
  go_wp2_with fail
  refine (load_ok a3 len0 c3 bs w2 R3 h2).mono ?_
  rintro e w3 ⟨b, g, rfl, H3⟩
  obtain ⟨lb, lg, o3, m3⟩ := H3.out
  have b3 : Below w.heap.size w w3 := o3.below b2 (by simp) k2
  clear H3 o3 R3
  go_wp2_with fail
  refine (arm_any b g len0 _ (N : Nat) w3 m3 (by omega)).mono ?_
  rintro e w4 ⟨rfl, o4, m4⟩
  have b4 : Below w.heap.size w w4 := o4.below b3 (by simp; omega) b3.size
  rw [show arE (N : Nat) = 0 from if_neg (by omega)]
  rw [show arS (S0 bs) (N : Nat) = ⟨bs, false, true, (N : Nat), 0⟩ from if_neg (by omega)] at m4
  have k4 := b4.size
  have n1 := m4.lt
  have n2 := m4.lg
  clear o4 m3 b3 b2
  have RA := (R.below b4).below ((Below.refl _ _).alloc (Nat.le_refl _) (.cells #[] 5))
  have hbelA : Below w4.heap.size w4 (w4.alloc (.cells #[] 5)) := (Below.refl _ _).alloc (Nat.le_refl _) _
  have O0 : (w4.alloc (.cells #[] 5)).ownsRow w4.heap.size 5 1 (.slice (some ⟨w4.heap.size, 0, none⟩) 0 0) 0 [] := World.ownsRow_made w4 #[] 0 (Nat.le_refl _) (Nat.zero_le _) rfl
  have hszA := hbelA.size
  go_wp2_with (at_builtin; refine wpList_append_row8 rfl (.tmp 51) (.tmp 52) 22 rfl w4.heap.size 5 i0 (.int .u8 0) Try.underlying22 hi hz0 hz1 hz2 rfl _ 0 _ rfl O0 a0 len0 cap0 bs rfl RA (by unfold maxLen; omega) (by omega) hszA ?_)
  intro v5 w5 hown5 hgrow5
  have hbel5 : Below w4.heap.size w4 w5 := hbelA.grown hgrow5 hszA (fun j hj => (O0.lt j hj).1)
  have b5 : Below w.heap.size w w5 := b4.trans (hbel5.mono k4)
  have m5 := m4.off (Off.of_below (l := []) hbel5) (by simp) (by simp)
  obtain ⟨G, cG, rfl, hG⟩ : ∃ G cG, v5 = .slice (some ⟨G, 0, none⟩) len0 cG ∧ w4.heap.size ≤ G := by
    rcases hown5.2 with ⟨_, e⟩ | ⟨G, cG, cur, he, hg, _⟩
    · omega
    · exact ⟨G, cG, he, hg⟩
  have HG : Hid (G ≠ b ∧ G ≠ g ∧ w.heap.size ≤ b ∧ w.heap.size ≤ g ∧ w.heap.size ≤ G) := by show _ ∧ _; omega
  clear hgrow5 O0 RA hbelA hbel5 hszA b4 m4 k4 n1 n2 hG lb lg k2 R hi hz0 hz1 hz2
  generalize w4.heap.size = B5 at *
  go_wp2_with fail
  go_loopw [6, 8, 10, 11, 12] (fun _ _ cd ci _ wr => ∃ (k d : Nat) (f : Nat → Nat) (o : Bool), k ≤ len2 ∧ ci = .int .i64 ((k : Nat) : Int) ∧ cd = .int .i64 ((d : Nat) : Int) ∧ d ≤ N ∧ (d < N → o = false) ∧ MR wr b g len0 ⟨f, o, true, (N : Int) - (d : Int), (d : Int)⟩ ∧ wr.ownsRow B5 5 1 (.slice (some ⟨G, 0, none⟩) len0 cG) len0 (CB f len0) ∧ Below w.heap.size w wr) (fun _ _ _ ci _ _ => len2 - (intOf ci).toNat)
  case atStart => exact ⟨0, 0, bs, false, by omega, rfl, rfl, by omega, fun _ => rfl, by rw [show (N : Int) - ((0 : Nat) : Int) = N by omega]; exact m5, by simpa using hown5, b5⟩
  case round =>
    clear m5 hown5 b5
    obtain ⟨k, d, f, o, hk, rfl, rfl, hd, ho, M, O, B⟩ := hrel
    by_cases hlt : k < len2
    · obtain ⟨q, off, rfl, hq, hcells⟩ := hz (by omega)
      have hcell := (B.cell (p := ⟨q, off + k, none⟩) hq).trans (hcells k hlt)
      have hrm : wrap64 ((IntKind.u64.wrap (z k)).tmod (len0 : Int)) = ((((z k % 18446744073709551616) % (len0 : Int)).toNat : Nat) : Int) := by
        rw [IntKind.wrap_u64, Int.tmod_eq_emod_of_nonneg (by omega)]
        have h1 := Int.emod_nonneg (z k % 18446744073709551616) (show (len0 : Int) ≠ 0 by omega)
        have h2 := Int.emod_lt_of_pos (z k % 18446744073709551616) (show 0 < (len0 : Int) by omega)
        unfold wrap64
        omega
      have hp : ((z k % 18446744073709551616) % (len0 : Int)).toNat < len0 := by
        have h1 := Int.emod_nonneg (z k % 18446744073709551616) (show (len0 : Int) ≠ 0 by omega)
        have h2 := Int.emod_lt_of_pos (z k % 18446744073709551616) (show 0 < (len0 : Int) by omega)
        omega
      generalize ((z k % 18446744073709551616) % (len0 : Int)).toNat = p at *
      generalize z k = zk at *
      obtain ⟨c, hc, hv⟩ : ∃ c : Nat, c < 256 ∧ (k : Int) % 256 = (c : Nat) := ⟨k % 256, by omega, by omega⟩
      have hl0 : ¬ (len0 : Int) = 0 := by omega
      clear hcells hz
      by_cases hdN : d = N
      · have hdI : (d : Int) = (N : Int) := by omega
        obtain ⟨hE, hS⟩ := wr_full (s := ⟨f, o, true, (N : Int) - (d : Int), (d : Int)⟩) (c := c) hp rfl (by show (N : Int) - (d : Int) = 0; omega)
        have HO : Hid (_) := And.intro O B
        clear O B
        go_wp2_with fail
        refine (write_any b g len0 _ (p : Nat) c wr M hc (by show (d : Int) < _; omega)).mono ?_
        rintro e w2 ⟨rfl, o2, m2⟩
        rw [hE]
        rw [hS] at m2
        have O2 := own_off HO.out.1 o2 (by have := HG.out; simp; omega)
        have B2 := o2.below HO.out.2 (by have := HG.out; simp; omega) HO.out.2.size
        have HQ : Hid (_) := And.intro m2 (And.intro O2 B2)
        have qO := off_any b g len0 _ w2 m2
        clear M hE hS o2 O2 B2 HO hcell m2
        go_wp2_with (go_at_call 16; refine qO.mono ?_; rintro e w' ⟨rfl, hw⟩; rw [hw]; clear hw)
        go_roundw
        case rel => exact ⟨k + 1, d, f, true, by omega, by go_num, by rw [hdI], by omega, (fun h => by omega), HQ.out.1, HQ.out.2.1, HQ.out.2.2⟩
        case measure => simp [intOf] <;> omega
      · have hdI : ¬ (d : Int) = (N : Int) := by omega
        obtain rfl : o = false := ho (by omega)
        obtain ⟨hE, hS⟩ := wr_left (s := ⟨f, false, true, (N : Int) - (d : Int), (d : Int)⟩) (c := c) (rch_in (p := p) hp rfl) rfl (by show (N : Int) - (d : Int) ≠ 0; omega)
        rw [Int.toNat_natCast] at hS
        have HO : Hid (_) := And.intro O B
        clear O B
        go_wp2_with fail
        refine (write_any b g len0 _ (p : Nat) c wr M hc (by show (d : Int) < _; omega)).mono ?_
        rintro e w2 ⟨rfl, o2, m2⟩
        rw [hE]
        rw [hS] at m2
        have O2 := own_off HO.out.1 o2 (by have := HG.out; simp; omega)
        have B2 := o2.below HO.out.2 (by have := HG.out; simp; omega) HO.out.2.size
        have hcx := O2.cellAt p (by omega)
        rw [CB_get _ _ p hp] at hcx
        have hfx := O2.frozenAt p
        have O3 := (O2.stored p (.int .u8 (c : Nat))).1
        rw [CB_set] at O3
        have o3 := Off.setCell G p w2 (.int .u8 (c : Nat))
        have m3 := m2.off o3 (by have := HG.out; simp; omega) (by have := HG.out; simp; omega)
        have B3 := o3.below B2 (by have := HG.out; simp; omega) B2.size
        have HQ : Hid (_) := And.intro m3 (And.intro O3 B3)
        have qO := off_any b g len0 _ _ m3
        have hes : (⟨lay f p c, false, true, (N : Int) - ((d + 1 : Nat) : Int), ((d + 1 : Nat) : Int)⟩ : Ms) = ⟨lay f p c, false, true, (N : Int) - (d : Int) - 1, (d : Int) + 1⟩ := by
          congr 1
          omega
        have HE : Hid (_) := hes
        clear M hE hS o2 O2 B2 O3 o3 m3 B3 HO hcell m2 hes
        go_wp2_with (go_at_call 16; refine qO.mono ?_; rintro e w' ⟨rfl, hw⟩; rw [hw]; clear hw)
        go_roundw
        case rel => exact ⟨k + 1, d + 1, lay f p c, false, by omega, by go_num, by go_num, by omega, (fun _ => rfl), by rw [HE.out]; exact HQ.out.1, HQ.out.2.1, HQ.out.2.2⟩
        case measure => simp [intOf] <;> omega
    · have hlI : ¬ (k : Int) < (len2 : Int) := by omega
      have HO : Hid (_) := And.intro O B
      clear O B hz
      go_wp2_with fail
      refine (on_any b g len0 _ wr M).mono ?_
      rintro e w6 ⟨rfl, o6, m6⟩
      have O6 := own_off HO.out.1 o6 (by have := HG.out; simp; omega)
      have B6 := o6.below HO.out.2 (by have := HG.out; simp; omega) HO.out.2.size
      have m7 := m6.drew
      have o7 := Off.drew [] w6
      have O7 := own_off O6 o7 (by simp)
      have B7 := o7.below B6 (by simp) B6.size
      have hfy := m6.byte
      obtain ⟨a7, c7, e7, R7⟩ := own_row8 O7 hfy
      simp only [Value.slice.injEq, true_and] at e7
      obtain ⟨rfl, rfl⟩ := e7
      have kW := conv_any _ _ _ _ _ R7
      obtain ⟨X, hX⟩ : ∃ X, BA f len0 = X := ⟨_, rfl⟩
      rw [show BA _ len0 = X from hX] at kW
      have qB := bytes_any b g len0 _ w6.drew m7
      have HM : Hid (_) := And.intro m7 (And.intro R7 B7)
      obtain ⟨hE, _⟩ := wr_free (s := ⟨f, false, false, (N : Int) - (d : Int), (d : Int)⟩) (n := len0) (p := 0) (c := 9) (rch_in (p := 0) (by omega) rfl) rfl
      have HE : Hid (_) := hE
      clear M o6 O6 B6 m6 m7 o7 O7 B7 R7 HO hE
      go_wp2_with fail
      go_region_with (first
        | (go_at_call 18; refine qB.mono ?_; rintro e w8 ⟨v8, rfl, H8⟩; obtain ⟨a8, c8, rfl, R8⟩ := own_row8 H8.out.1 hfy; have k8 := conv_any a8 len0 c8 _ _ R8; rw [show BA _ len0 = X from hX] at k8; have k9 := conv_any _ _ _ _ _ (HM.out.2.1.below H8.out.2); rw [show BA _ len0 = X from hX] at k9; have m8 := HM.out.1.off (Off.of_below (l := []) H8.out.2) (by simp) (by simp); have q8 := writes_any _ _ _ _ _ m8; have q9 := off_any _ _ _ _ _ m8; have qW := write_any b g len0 _ 0 9 w8 m8 (by omega) (by show (d : Int) < _; omega); rw [show wrE _ len0 0 = 0 from HE.out] at qW; have H9 : Hid (_) := H8.out.2; clear R8 H8 m8)
        | (go_at_call 19; refine q8.mono ?_; rintro e w' ⟨rfl, hw⟩; rw [hw]; clear hw)
        | (go_at_call 16; refine q9.mono ?_; rintro e w' ⟨rfl, hw⟩; rw [hw]; clear hw)
        | (go_at_call 15; refine qW.mono ?_; rintro e w9 ⟨rfl, o9, _⟩; have HW : Hid (_) := o9; clear o9))
      all_goals
        go_wp2_with fail
        go_ret
        exact ⟨by simp [Act.put], HW.out.below (HM.out.2.2.trans (H9.out.mono HM.out.2.2.size)) (by have := HG.out; simp; omega) (Nat.le_trans HM.out.2.2.size H9.out.size)⟩
theorem memCuts_walk (a0 : Option Addr) (len0 cap0 : Nat) (z0 : List Int) (a1 : Int) (a2 : Option Addr) (len2 cap2 : Nat) (z2 : List Int) (w : World) (w0 : BRow .u8 w a0 len0 cap0 z0) (_w1 : (Lit.int .i64 a1).wf = true) (w2 : BRow .i64 w a2 len2 cap2 z2) :
    Calls Try.prog 4 #[.slice a0 len0 cap0, .int .i64 a1, .slice a2 len2 cap2] w fun e w' => e = .returned (.bool true) ∧ Below w.heap.size w w' := by
  by_cases h : len0 < 1 ∨ 4096 < len0 ∨ a1 < 0 ∨ 300 < a1 ∨ 400 < len2
  · exact cuts_out a0 len0 cap0 a1 a2 len2 cap2 w h
  · obtain ⟨N, rfl⟩ := Int.eq_ofNat_of_zero_le (a := a1) (by omega)
    exact cuts_good a0 len0 cap0 _ N a2 len2 cap2 (fun i => z2.getD i 0) w w0.row8 (by omega) (by omega) (by omega) (by omega) (fun hp => by
      obtain ⟨q, off, e, hq, hc⟩ := w2.nums hp
      exact ⟨q, off, e, hq, fun i hi => (hc i hi).1⟩)

end Go.Proofs.Ytodngejamocmdaa
