/- Layer 7: MemPlays. (genplays7.py) -/
import Derived.Test.YtodngejamocmdaaMstep7b
import Derived.Test.YtodngejamocmdaaOp7
namespace Go.Proofs.Ytodngejamocmdaa
open Go.RowKit

set_option maxRecDepth 100000 in
set_option maxHeartbeats 4000000 in
theorem plays_nn (N : Int) (a1 : Option Addr) (len1 cap1 : Nat) (bs : Nat → Nat) (a2 : Option Addr) (len2 cap2 : Nat) (w : World) (hN : N < 0 ∨ 4096 < N) (R : Row8 w a1 len1 cap1 bs) (w2 : OpRow w a2 len2) (s1 : len1 ≤ 140737488351232) (hL : 4096 < len1) :
    Calls Try.prog 3 #[.int .i64 N, .slice a1 len1 cap1, .slice a2 len2 cap2] w fun e w' => e = .returned (.bool true) ∧ Below w.heap.size w w' := by
  obtain ⟨i0, hi, hz0, hz1, hz2⟩ := info_parts info_u8
  obtain ⟨hl2, hr⟩ := w2
  go_enter Try.func3, Try.ntmps3
  go_wp2_with fail
  refine (awake7 w).mono ?_
  rintro e wb ⟨rfl, bb⟩
  go_wp2_with fail
  refine (new_no N wb hN).mono ?_
  rintro e wc ⟨rfl, rfl⟩
  go_wp2_with fail
  refine (rnew_no N wc hN).mono ?_
  rintro e wd ⟨rfl, rfl⟩
  have bd : Below w.heap.size w wd := bb
  clear bb
  have kd := bd.size
  have RA := (R.below bd).below ((Below.refl _ _).alloc (Nat.le_refl _) (.cells #[] 5))
  have hbelA : Below wd.heap.size wd (wd.alloc (.cells #[] 5)) := (Below.refl _ _).alloc (Nat.le_refl _) _
  have O0 : (wd.alloc (.cells #[] 5)).ownsRow wd.heap.size 5 1 (.slice (some ⟨wd.heap.size, 0, none⟩) 0 0) 0 [] := World.ownsRow_made wd #[] 0 (Nat.le_refl _) (Nat.zero_le _) rfl
  have hszA := hbelA.size
  go_wp2_with (at_builtin; refine wpList_append_row8 rfl (.tmp 29) (.tmp 30) 22 rfl wd.heap.size 5 i0 (.int .u8 0) Try.underlying22 hi hz0 hz1 hz2 rfl _ 0 _ rfl O0 a1 len1 cap1 bs rfl RA (by unfold maxLen; omega) (by omega) hszA ?_)
  intro v2 we hown2 hgrow2
  have hbel2 : Below wd.heap.size wd we := hbelA.grown hgrow2 hszA (fun j hj => (O0.lt j hj).1)
  obtain ⟨a3, c3, rfl, R3⟩ := own_row8 hown2 R.byte
  have be : Below w.heap.size w we := bd.trans (hbel2.mono kd)
  have ke := be.size
  have hde := hbel2.size
  clear hown2 hgrow2 O0 RA hbelA hbel2 hszA bd hi hz0 hz1 hz2
  go_wp2_with fail
  refine (load_no a3 len1 c3 we hL).mono ?_
  rintro e wf ⟨rfl, rfl⟩
  clear R3
  go_wp2_with fail
  refine (rload_no a1 len1 cap1 wf hL).mono ?_
  rintro e wg ⟨rfl, rfl⟩
  have bg : Below w.heap.size w wg := be
  clear be
  clear R
  go_wp2_with fail
  go_loopw [6, 15] (fun _ c wr => ∃ k : Nat, k ≤ 200 ∧ c = .int .i64 ((k : Nat) : Int) ∧ Below w.heap.size w wr) (fun _ c _ => 200 - (intOf c).toNat)
  case atStart => exact ⟨0, by omega, rfl, bg⟩
  case round =>
    clear bg
    obtain ⟨k, hk, rfl, B⟩ := hrel
    by_cases hlt : k < len2
    · by_cases hlt2 : k < 200
      · obtain ⟨q, off, rfl, hq, hcells⟩ := hr (by omega)
        obtain ⟨kk, p, c, ⟨hc, hp⟩, e0, e1, e2⟩ := hcells k hlt
        have e0 := (B.cell (p := ⟨q, off + k * 3 + 0, none⟩) hq).trans e0
        have e1 := (B.cell (p := ⟨q, off + k * 3 + 1, none⟩) hq).trans e1
        have e2 := (B.cell (p := ⟨q, off + k * 3 + 2, none⟩) hq).trans e2
        simp only [Nat.add_zero] at e0
        clear hcells hr
        go_wp2_with fail
        go_roundw
        case rel => exact ⟨k + 1, by omega, by go_num, B⟩
        case measure => simp [intOf] <;> omega
      · have hge : k = 200 := by omega
        go_wp2_with fail
        go_ret
        exact ⟨rfl, B⟩
    · go_wp2_with fail
      go_ret
      exact ⟨rfl, B⟩
set_option maxRecDepth 100000 in
set_option maxHeartbeats 4000000 in
theorem plays_ns (N : Int) (a1 : Option Addr) (len1 cap1 : Nat) (bs : Nat → Nat) (a2 : Option Addr) (len2 cap2 : Nat) (w : World) (hN : N < 0 ∨ 4096 < N) (R : Row8 w a1 len1 cap1 bs) (w2 : OpRow w a2 len2) (s1 : len1 ≤ 140737488351232) (hL : len1 ≤ 4096) :
    Calls Try.prog 3 #[.int .i64 N, .slice a1 len1 cap1, .slice a2 len2 cap2] w fun e w' => e = .returned (.bool true) ∧ Below w.heap.size w w' := by
  obtain ⟨i0, hi, hz0, hz1, hz2⟩ := info_parts info_u8
  obtain ⟨hl2, hr⟩ := w2
  go_enter Try.func3, Try.ntmps3
  go_wp2_with fail
  refine (awake7 w).mono ?_
  rintro e wb ⟨rfl, bb⟩
  go_wp2_with fail
  refine (new_no N wb hN).mono ?_
  rintro e wc ⟨rfl, rfl⟩
  go_wp2_with fail
  refine (rnew_no N wc hN).mono ?_
  rintro e wd ⟨rfl, rfl⟩
  have bd : Below w.heap.size w wd := bb
  clear bb
  have kd := bd.size
  have RA := (R.below bd).below ((Below.refl _ _).alloc (Nat.le_refl _) (.cells #[] 5))
  have hbelA : Below wd.heap.size wd (wd.alloc (.cells #[] 5)) := (Below.refl _ _).alloc (Nat.le_refl _) _
  have O0 : (wd.alloc (.cells #[] 5)).ownsRow wd.heap.size 5 1 (.slice (some ⟨wd.heap.size, 0, none⟩) 0 0) 0 [] := World.ownsRow_made wd #[] 0 (Nat.le_refl _) (Nat.zero_le _) rfl
  have hszA := hbelA.size
  go_wp2_with (at_builtin; refine wpList_append_row8 rfl (.tmp 29) (.tmp 30) 22 rfl wd.heap.size 5 i0 (.int .u8 0) Try.underlying22 hi hz0 hz1 hz2 rfl _ 0 _ rfl O0 a1 len1 cap1 bs rfl RA (by unfold maxLen; omega) (by omega) hszA ?_)
  intro v2 we hown2 hgrow2
  have hbel2 : Below wd.heap.size wd we := hbelA.grown hgrow2 hszA (fun j hj => (O0.lt j hj).1)
  obtain ⟨a3, c3, rfl, R3⟩ := own_row8 hown2 R.byte
  have be : Below w.heap.size w we := bd.trans (hbel2.mono kd)
  have ke := be.size
  have hde := hbel2.size
  clear hown2 hgrow2 O0 RA hbelA hbel2 hszA bd hi hz0 hz1 hz2
  go_wp2_with fail
  refine (load_ok a3 len1 c3 bs we R3 hL).mono ?_
  rintro e wf ⟨d, h, rfl, H3⟩
  obtain ⟨ld, lh, o3, m3⟩ := H3.out
  have bf : Below w.heap.size w wf := o3.below be (by simp) be.size
  have kf := o3.size
  clear H3 o3 R3
  go_wp2_with fail
  refine (rload_ok a1 len1 cap1 bs wf (R.below bf) hL).mono ?_
  rintro e wg ⟨d', h', rfl, H4⟩
  obtain ⟨ld', lh', o4, r4⟩ := H4.out
  have bg : Below w.heap.size w wg := o4.below bf (by simp) bf.size
  have n1 := m3.lt
  have n2 := m3.lg
  have U4 : Tw wg d h d' h' len1 (S0 bs) := ⟨m3.off o4 (by simp) (by simp), r4, by omega, by omega, by omega, by omega⟩
  have G2 : Hid (we.heap.size ≤ d ∧ we.heap.size ≤ h ∧ we.heap.size ≤ d' ∧ we.heap.size ≤ h') := by show _ ∧ _; omega
  clear H4 o4 m3 r4 n1 n2 ld lh ld' lh' bf kf be
  clear R
  go_wp2_with fail
  go_loopw [6, 15] (fun _ c wr => ∃ k : Nat, k ≤ 200 ∧ c = .int .i64 ((k : Nat) : Int) ∧ (∃ s, Tw wr d h d' h' len1 s ∧ s.t ≤ (k : Int)) ∧ Below w.heap.size w wr) (fun _ c _ => 200 - (intOf c).toNat)
  case atStart => exact ⟨0, by omega, rfl, ⟨_, U4, Int.le_refl _⟩, bg⟩
  case round =>
    clear bg U4
    obtain ⟨k, hk, rfl, ⟨u, B2, t2⟩, B⟩ := hrel
    by_cases hlt : k < len2
    · by_cases hlt2 : k < 200
      · obtain ⟨q, off, rfl, hq, hcells⟩ := hr (by omega)
        obtain ⟨kk, p, c, ⟨hc, hp⟩, e0, e1, e2⟩ := hcells k hlt
        have e0 := (B.cell (p := ⟨q, off + k * 3 + 0, none⟩) hq).trans e0
        have e1 := (B.cell (p := ⟨q, off + k * 3 + 1, none⟩) hq).trans e1
        have e2 := (B.cell (p := ⟨q, off + k * 3 + 2, none⟩) hq).trans e2
        simp only [Nat.add_zero] at e0
        clear hcells hr
        go_wp2_with fail
        refine (step_any d h d' h' len1 u kk p c wr B2 hc hp (by omega)).mono ?_
        rintro e w4 ⟨rfl, o4, u', E2, t2'⟩
        have E := o4.below B (by have := G2.out; simp; omega) B.size
        clear B B2 e0 e1 e2
        clear o4
        go_wp2_with fail
        refine (shows_any d h d' h' len1 u' w4 E2.m E2.r).mono ?_
        rintro e w5 ⟨rfl, b5⟩
        have F := E.trans (b5.mono E.size)
        have F2 := E2.off (Off.of_below (l := []) b5) (by simp) (by simp) (by simp) (by simp)
        clear E2 E b5
        go_wp2_with fail
        go_roundw
        case rel => exact ⟨k + 1, by omega, by go_num, ⟨_, F2, by omega⟩, F⟩
        case measure => simp [intOf] <;> omega
      · have hge : k = 200 := by omega
        go_wp2_with fail
        go_ret
        exact ⟨rfl, B⟩
    · go_wp2_with fail
      go_ret
      exact ⟨rfl, B⟩
set_option maxRecDepth 100000 in
set_option maxHeartbeats 4000000 in
theorem plays_sn (N : Nat) (a1 : Option Addr) (len1 cap1 : Nat) (bs : Nat → Nat) (a2 : Option Addr) (len2 cap2 : Nat) (w : World) (hN : N ≤ 4096) (R : Row8 w a1 len1 cap1 bs) (w2 : OpRow w a2 len2) (s1 : len1 ≤ 140737488351232) (hL : 4096 < len1) :
    Calls Try.prog 3 #[.int .i64 (N : Nat), .slice a1 len1 cap1, .slice a2 len2 cap2] w fun e w' => e = .returned (.bool true) ∧ Below w.heap.size w w' := by
  obtain ⟨i0, hi, hz0, hz1, hz2⟩ := info_parts info_u8
  obtain ⟨hl2, hr⟩ := w2
  go_enter Try.func3, Try.ntmps3
  go_wp2_with fail
  refine (awake7 w).mono ?_
  rintro e wb ⟨rfl, bb⟩
  go_wp2_with fail
  refine (new_ok N wb hN).mono ?_
  rintro e wc ⟨b, g, rfl, H1⟩
  obtain ⟨lb, lg, o1, m1⟩ := H1.out
  clear H1
  have bc : Below w.heap.size w wc := o1.below bb (by simp) bb.size
  have kb := bb.size
  clear o1
  go_wp2_with fail
  refine (rnew_ok N wc hN).mono ?_
  rintro e wd ⟨b', g', rfl, H2⟩
  obtain ⟨lb', lg', o2, r2⟩ := H2.out
  have kc := bc.size
  have bd : Below w.heap.size w wd := o2.below bc (by simp) bc.size
  have n1 := m1.lt
  have n2 := m1.lg
  have T1 : Tw wd b g b' g' N (S0 fun _ => 0) := ⟨m1.off o2 (by simp) (by simp), r2, by omega, by omega, by omega, by omega⟩
  have G1 : Hid (w.heap.size ≤ b ∧ w.heap.size ≤ g ∧ w.heap.size ≤ b' ∧ w.heap.size ≤ g') := by show _ ∧ _; omega
  clear H2 o2 m1 r2 bc bb kb kc lb lg lb' lg' n1 n2
  have kd := bd.size
  have RA := (R.below bd).below ((Below.refl _ _).alloc (Nat.le_refl _) (.cells #[] 5))
  have hbelA : Below wd.heap.size wd (wd.alloc (.cells #[] 5)) := (Below.refl _ _).alloc (Nat.le_refl _) _
  have O0 : (wd.alloc (.cells #[] 5)).ownsRow wd.heap.size 5 1 (.slice (some ⟨wd.heap.size, 0, none⟩) 0 0) 0 [] := World.ownsRow_made wd #[] 0 (Nat.le_refl _) (Nat.zero_le _) rfl
  have hszA := hbelA.size
  go_wp2_with (at_builtin; refine wpList_append_row8 rfl (.tmp 29) (.tmp 30) 22 rfl wd.heap.size 5 i0 (.int .u8 0) Try.underlying22 hi hz0 hz1 hz2 rfl _ 0 _ rfl O0 a1 len1 cap1 bs rfl RA (by unfold maxLen; omega) (by omega) hszA ?_)
  intro v2 we hown2 hgrow2
  have hbel2 : Below wd.heap.size wd we := hbelA.grown hgrow2 hszA (fun j hj => (O0.lt j hj).1)
  obtain ⟨a3, c3, rfl, R3⟩ := own_row8 hown2 R.byte
  have be : Below w.heap.size w we := bd.trans (hbel2.mono kd)
  have T2 := T1.off (Off.of_below (l := []) hbel2) (by simp) (by simp) (by simp) (by simp)
  clear T1
  have ke := be.size
  have hde := hbel2.size
  clear hown2 hgrow2 O0 RA hbelA hbel2 hszA bd hi hz0 hz1 hz2
  go_wp2_with fail
  refine (load_no a3 len1 c3 we hL).mono ?_
  rintro e wf ⟨rfl, rfl⟩
  clear R3
  go_wp2_with fail
  refine (rload_no a1 len1 cap1 wf hL).mono ?_
  rintro e wg ⟨rfl, rfl⟩
  have bg : Below w.heap.size w wg := be
  clear be
  have T4 := T2
  clear T2
  clear R
  go_wp2_with fail
  go_loopw [6, 15] (fun _ c wr => ∃ k : Nat, k ≤ 200 ∧ c = .int .i64 ((k : Nat) : Int) ∧ (∃ s, Tw wr b g b' g' N s ∧ s.t ≤ (k : Int)) ∧ Below w.heap.size w wr) (fun _ c _ => 200 - (intOf c).toNat)
  case atStart => exact ⟨0, by omega, rfl, ⟨_, T4, Int.le_refl _⟩, bg⟩
  case round =>
    clear bg T4
    obtain ⟨k, hk, rfl, ⟨s, B1, t1⟩, B⟩ := hrel
    by_cases hlt : k < len2
    · by_cases hlt2 : k < 200
      · obtain ⟨q, off, rfl, hq, hcells⟩ := hr (by omega)
        obtain ⟨kk, p, c, ⟨hc, hp⟩, e0, e1, e2⟩ := hcells k hlt
        have e0 := (B.cell (p := ⟨q, off + k * 3 + 0, none⟩) hq).trans e0
        have e1 := (B.cell (p := ⟨q, off + k * 3 + 1, none⟩) hq).trans e1
        have e2 := (B.cell (p := ⟨q, off + k * 3 + 2, none⟩) hq).trans e2
        simp only [Nat.add_zero] at e0
        clear hcells hr
        go_wp2_with fail
        refine (step_any b g b' g' N s kk p c wr B1 hc hp (by omega)).mono ?_
        rintro e w2 ⟨rfl, o2, s', C1, t1'⟩
        have C := o2.below B (by have := G1.out; simp; omega) B.size
        clear o2 B1 B e0 e1 e2
        go_wp2_with fail
        refine (shows_any b g b' g' N s' w2 C1.m C1.r).mono ?_
        rintro e w3 ⟨rfl, b3⟩
        have D := C.trans (b3.mono C.size)
        have D1 := C1.off (Off.of_below (l := []) b3) (by simp) (by simp) (by simp) (by simp)
        clear C1 C b3
        go_wp2_with fail
        go_roundw
        case rel => exact ⟨k + 1, by omega, by go_num, ⟨_, D1, by omega⟩, D⟩
        case measure => simp [intOf] <;> omega
      · have hge : k = 200 := by omega
        go_wp2_with fail
        go_ret
        exact ⟨rfl, B⟩
    · go_wp2_with fail
      go_ret
      exact ⟨rfl, B⟩
set_option maxRecDepth 100000 in
set_option maxHeartbeats 4000000 in
theorem plays_ss (N : Nat) (a1 : Option Addr) (len1 cap1 : Nat) (bs : Nat → Nat) (a2 : Option Addr) (len2 cap2 : Nat) (w : World) (hN : N ≤ 4096) (R : Row8 w a1 len1 cap1 bs) (w2 : OpRow w a2 len2) (s1 : len1 ≤ 140737488351232) (hL : len1 ≤ 4096) :
    Calls Try.prog 3 #[.int .i64 (N : Nat), .slice a1 len1 cap1, .slice a2 len2 cap2] w fun e w' => e = .returned (.bool true) ∧ Below w.heap.size w w' := by
  obtain ⟨i0, hi, hz0, hz1, hz2⟩ := info_parts info_u8
  obtain ⟨hl2, hr⟩ := w2
  go_enter Try.func3, Try.ntmps3
  go_wp2_with fail
  refine (awake7 w).mono ?_
  rintro e wb ⟨rfl, bb⟩
  go_wp2_with fail
  refine (new_ok N wb hN).mono ?_
  rintro e wc ⟨b, g, rfl, H1⟩
  obtain ⟨lb, lg, o1, m1⟩ := H1.out
  clear H1
  have bc : Below w.heap.size w wc := o1.below bb (by simp) bb.size
  have kb := bb.size
  clear o1
  go_wp2_with fail
  refine (rnew_ok N wc hN).mono ?_
  rintro e wd ⟨b', g', rfl, H2⟩
  obtain ⟨lb', lg', o2, r2⟩ := H2.out
  have kc := bc.size
  have bd : Below w.heap.size w wd := o2.below bc (by simp) bc.size
  have n1 := m1.lt
  have n2 := m1.lg
  have T1 : Tw wd b g b' g' N (S0 fun _ => 0) := ⟨m1.off o2 (by simp) (by simp), r2, by omega, by omega, by omega, by omega⟩
  have G1 : Hid (w.heap.size ≤ b ∧ w.heap.size ≤ g ∧ w.heap.size ≤ b' ∧ w.heap.size ≤ g') := by show _ ∧ _; omega
  clear H2 o2 m1 r2 bc bb kb kc lb lg lb' lg' n1 n2
  have kd := bd.size
  have RA := (R.below bd).below ((Below.refl _ _).alloc (Nat.le_refl _) (.cells #[] 5))
  have hbelA : Below wd.heap.size wd (wd.alloc (.cells #[] 5)) := (Below.refl _ _).alloc (Nat.le_refl _) _
  have O0 : (wd.alloc (.cells #[] 5)).ownsRow wd.heap.size 5 1 (.slice (some ⟨wd.heap.size, 0, none⟩) 0 0) 0 [] := World.ownsRow_made wd #[] 0 (Nat.le_refl _) (Nat.zero_le _) rfl
  have hszA := hbelA.size
  go_wp2_with (at_builtin; refine wpList_append_row8 rfl (.tmp 29) (.tmp 30) 22 rfl wd.heap.size 5 i0 (.int .u8 0) Try.underlying22 hi hz0 hz1 hz2 rfl _ 0 _ rfl O0 a1 len1 cap1 bs rfl RA (by unfold maxLen; omega) (by omega) hszA ?_)
  intro v2 we hown2 hgrow2
  have hbel2 : Below wd.heap.size wd we := hbelA.grown hgrow2 hszA (fun j hj => (O0.lt j hj).1)
  obtain ⟨a3, c3, rfl, R3⟩ := own_row8 hown2 R.byte
  have be : Below w.heap.size w we := bd.trans (hbel2.mono kd)
  have T2 := T1.off (Off.of_below (l := []) hbel2) (by simp) (by simp) (by simp) (by simp)
  clear T1
  have ke := be.size
  have hde := hbel2.size
  clear hown2 hgrow2 O0 RA hbelA hbel2 hszA bd hi hz0 hz1 hz2
  go_wp2_with fail
  refine (load_ok a3 len1 c3 bs we R3 hL).mono ?_
  rintro e wf ⟨d, h, rfl, H3⟩
  obtain ⟨ld, lh, o3, m3⟩ := H3.out
  have bf : Below w.heap.size w wf := o3.below be (by simp) be.size
  have kf := o3.size
  have T3 := T2.off o3 (by simp) (by simp) (by simp) (by simp)
  have GM : Hid (b < we.heap.size ∧ g < we.heap.size ∧ b' < we.heap.size ∧ g' < we.heap.size) := ⟨T2.m.lt, T2.m.lg, T2.r.lt, T2.r.lg⟩
  clear H3 o3 R3
  go_wp2_with fail
  refine (rload_ok a1 len1 cap1 bs wf (R.below bf) hL).mono ?_
  rintro e wg ⟨d', h', rfl, H4⟩
  obtain ⟨ld', lh', o4, r4⟩ := H4.out
  have bg : Below w.heap.size w wg := o4.below bf (by simp) bf.size
  have n1 := m3.lt
  have n2 := m3.lg
  have U4 : Tw wg d h d' h' len1 (S0 bs) := ⟨m3.off o4 (by simp) (by simp), r4, by omega, by omega, by omega, by omega⟩
  have G2 : Hid (we.heap.size ≤ d ∧ we.heap.size ≤ h ∧ we.heap.size ≤ d' ∧ we.heap.size ≤ h') := by show _ ∧ _; omega
  have T4 := T3.off o4 (by simp) (by simp) (by simp) (by simp)
  clear T2 T3
  clear H4 o4 m3 r4 n1 n2 ld lh ld' lh' bf kf be
  clear R
  go_wp2_with fail
  go_loopw [6, 15] (fun _ c wr => ∃ k : Nat, k ≤ 200 ∧ c = .int .i64 ((k : Nat) : Int) ∧ (∃ s, Tw wr b g b' g' N s ∧ s.t ≤ (k : Int)) ∧ (∃ s, Tw wr d h d' h' len1 s ∧ s.t ≤ (k : Int)) ∧ Below w.heap.size w wr) (fun _ c _ => 200 - (intOf c).toNat)
  case atStart => exact ⟨0, by omega, rfl, ⟨_, T4, Int.le_refl _⟩, ⟨_, U4, Int.le_refl _⟩, bg⟩
  case round =>
    clear bg T4 U4
    obtain ⟨k, hk, rfl, ⟨s, B1, t1⟩, ⟨u, B2, t2⟩, B⟩ := hrel
    by_cases hlt : k < len2
    · by_cases hlt2 : k < 200
      · obtain ⟨q, off, rfl, hq, hcells⟩ := hr (by omega)
        obtain ⟨kk, p, c, ⟨hc, hp⟩, e0, e1, e2⟩ := hcells k hlt
        have e0 := (B.cell (p := ⟨q, off + k * 3 + 0, none⟩) hq).trans e0
        have e1 := (B.cell (p := ⟨q, off + k * 3 + 1, none⟩) hq).trans e1
        have e2 := (B.cell (p := ⟨q, off + k * 3 + 2, none⟩) hq).trans e2
        simp only [Nat.add_zero] at e0
        clear hcells hr
        go_wp2_with fail
        refine (step_any b g b' g' N s kk p c wr B1 hc hp (by omega)).mono ?_
        rintro e w2 ⟨rfl, o2, s', C1, t1'⟩
        have C := o2.below B (by have := G1.out; simp; omega) B.size
        have C2 := B2.off o2 (by have := GM.out; have := G2.out; simp; omega) (by have := GM.out; have := G2.out; simp; omega) (by have := GM.out; have := G2.out; simp; omega) (by have := GM.out; have := G2.out; simp; omega)
        have f0 := (C.cell (p := ⟨q, off + k * 3, none⟩) hq).trans ((B.cell (p := ⟨q, off + k * 3, none⟩) hq).symm.trans e0)
        have f1 := (C.cell (p := ⟨q, off + k * 3 + 1, none⟩) hq).trans ((B.cell (p := ⟨q, off + k * 3 + 1, none⟩) hq).symm.trans e1)
        have f2 := (C.cell (p := ⟨q, off + k * 3 + 2, none⟩) hq).trans ((B.cell (p := ⟨q, off + k * 3 + 2, none⟩) hq).symm.trans e2)
        clear B2
        clear o2 B1 B e0 e1 e2
        go_wp2_with fail
        refine (shows_any b g b' g' N s' w2 C1.m C1.r).mono ?_
        rintro e w3 ⟨rfl, b3⟩
        have D := C.trans (b3.mono C.size)
        have D1 := C1.off (Off.of_below (l := []) b3) (by simp) (by simp) (by simp) (by simp)
        have D2 := C2.off (Off.of_below (l := []) b3) (by simp) (by simp) (by simp) (by simp)
        have h0 := (b3.cell (p := ⟨q, off + k * 3, none⟩) (Nat.lt_of_lt_of_le hq C.size)).trans f0
        have h1 := (b3.cell (p := ⟨q, off + k * 3 + 1, none⟩) (Nat.lt_of_lt_of_le hq C.size)).trans f1
        have h2 := (b3.cell (p := ⟨q, off + k * 3 + 2, none⟩) (Nat.lt_of_lt_of_le hq C.size)).trans f2
        clear C2 f0 f1 f2
        clear C1 C b3
        go_wp2_with fail
        refine (step_any d h d' h' len1 u kk p c w3 D2 hc hp (by omega)).mono ?_
        rintro e w4 ⟨rfl, o4, u', E2, t2'⟩
        have E := o4.below D (by have := G2.out; simp; omega) D.size
        have E1 := D1.off o4 (by have := GM.out; have := G2.out; simp; omega) (by have := GM.out; have := G2.out; simp; omega) (by have := GM.out; have := G2.out; simp; omega) (by have := GM.out; have := G2.out; simp; omega)
        clear D1 D D2 h0 h1 h2
        clear o4
        go_wp2_with fail
        refine (shows_any d h d' h' len1 u' w4 E2.m E2.r).mono ?_
        rintro e w5 ⟨rfl, b5⟩
        have F := E.trans (b5.mono E.size)
        have F2 := E2.off (Off.of_below (l := []) b5) (by simp) (by simp) (by simp) (by simp)
        have F1 := E1.off (Off.of_below (l := []) b5) (by simp) (by simp) (by simp) (by simp)
        clear E1
        clear E2 E b5
        go_wp2_with fail
        go_roundw
        case rel => exact ⟨k + 1, by omega, by go_num, ⟨_, F1, by omega⟩, ⟨_, F2, by omega⟩, F⟩
        case measure => simp [intOf] <;> omega
      · have hge : k = 200 := by omega
        go_wp2_with fail
        go_ret
        exact ⟨rfl, B⟩
    · go_wp2_with fail
      go_ret
      exact ⟨rfl, B⟩
theorem memPlays_walk (a0 : Int) (a1 : Option Addr) (len1 cap1 : Nat) (z1 : List Int) (a2 : Option Addr) (len2 cap2 : Nat) (w : World) (_w0 : (Lit.int .i64 a0).wf = true) (w1 : BRow .u8 w a1 len1 cap1 z1) (w2 : OpRow w a2 len2) (s1 : len1 ≤ 140737488351232) :
    Calls Try.prog 3 #[.int .i64 a0, .slice a1 len1 cap1, .slice a2 len2 cap2] w fun e w' => e = .returned (.bool true) ∧ Below w.heap.size w w' := by
  by_cases hL : len1 ≤ 4096
  · by_cases hN : a0 < 0 ∨ 4096 < a0
    · exact plays_ns a0 a1 len1 cap1 _ a2 len2 cap2 w hN w1.row8 w2 s1 hL
    · obtain ⟨N, rfl⟩ := Int.eq_ofNat_of_zero_le (a := a0) (by omega)
      exact plays_ss N a1 len1 cap1 _ a2 len2 cap2 w (by omega) w1.row8 w2 s1 hL
  · by_cases hN : a0 < 0 ∨ 4096 < a0
    · exact plays_nn a0 a1 len1 cap1 _ a2 len2 cap2 w hN w1.row8 w2 s1 (by omega)
    · obtain ⟨N, rfl⟩ := Int.eq_ofNat_of_zero_le (a := a0) (by omega)
      exact plays_sn N a1 len1 cap1 _ a2 len2 cap2 w (by omega) w1.row8 w2 s1 (by omega)

end Go.Proofs.Ytodngejamocmdaa
