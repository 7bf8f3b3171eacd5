/- PassiveWay: the way back. -/
import Derived.Test.YtjdedopijplblaaAw11
import Derived.Test.YtjdedopijplblaaOp11
namespace Go.Proofs.Ytjdedopijplblaa
open Go.RowKit

theorem way_state (s : Vs) (x : Int) (hx : ¬ x = 0) : ∃ (L : Int) (B : Nat → Nat), ¬ L = 0 ∧ vtrip (vhold (vrun s true) false) x = ⟨true, false, false, L, false, B⟩ := by
  obtain ⟨r, hd, fr, lat, sm, bs⟩ := s
  refine ⟨if lat = 0 then x else lat, bs, by split <;> assumption, ?_⟩
  unfold vtrip vhold vrun
  rw [if_neg hx]
  cases r <;> simp
theorem way_req0 (L : Int) (B : Nat → Nat) : vreq ⟨true, false, false, L, false, B⟩ = false := by simp [vreq]
theorem way_ack0 (L : Int) (B : Nat → Nat) : vack ⟨true, false, false, L, false, B⟩ = ⟨true, false, false, L, false, B⟩ := by simp [vack, way_req0]
theorem way_err0 (L : Int) (B : Nat → Nat) : vackE ⟨true, false, false, L, false, B⟩ = 110 := by simp [vackE, way_req0]
theorem way_fresh (L : Int) (hL : ¬ L = 0) (B : Nat → Nat) : vfresh ⟨true, false, false, L, false, B⟩ = ⟨true, false, true, L, false, B⟩ := by simp [vfresh, hL]
theorem way_req1 (L : Int) (hL : ¬ L = 0) (B : Nat → Nat) : vreq ⟨true, false, true, L, false, B⟩ = true := by simp [vreq, hL]
theorem way_ack1 (L : Int) (hL : ¬ L = 0) (B : Nat → Nat) : vack ⟨true, false, true, L, false, B⟩ = ⟨true, false, false, 0, false, B⟩ := by simp [vack, way_req1 L hL]
theorem way_err1 (L : Int) (hL : ¬ L = 0) (B : Nat → Nat) : vackE ⟨true, false, true, L, false, B⟩ = 0 := by simp [vackE, way_req1 L hL]
set_option maxRecDepth 100000 in
set_option maxHeartbeats 4000000 in
theorem way_in (a : Option Addr) (len cap : Nat) (x : Int) (hx : ¬ x = 0) (a2 : Option Addr) (cap2 : Nat) (bs : Nat → Nat) (w : World) (h : OpRow w a len) (R : Row8 w a2 3 cap2 bs) :
    Calls Try.prog 5 #[.slice a len cap, .int .i64 x, .slice a2 3 cap2] w fun e w' => e = .returned (.bool true) ∧ Below w.heap.size w w' := by
  obtain ⟨i0, hi, hz0, hz1, hz2⟩ := info_parts info_u8
  have hbd := build0V
  obtain ⟨hlen, h0⟩ := h
  have HC : Hid (_) := h0
  have HR : Hid (_) := R
  clear h0 R
  go_enter Try.func5, Try.ntmps5
  go_wp2_with fail
  refine (awake11 w).mono ?_
  rintro e w1 ⟨rfl, b1⟩
  have B1 : Hid (_) := b1
  clear b1
  go_wp2_with fail
  refine (vnew_ok 3 w1 (by omega) (by omega)).mono ?_
  rintro e w2 ⟨b, g, rfl, H2⟩
  obtain ⟨hb, hg, o2, m2⟩ := H2.out
  have b1 := B1.out
  have hb0 : w.heap.size ≤ b := Nat.le_trans b1.size hb
  have hg0 : w.heap.size ≤ g := Nat.le_trans b1.size hg
  have b2 : Below w.heap.size w w2 := o2.below b1 (by simp) b1.size
  have HB0 : ∀ k, k ∈ [b, g] → w.heap.size ≤ k := by simpa using And.intro hb0 hg0
  have HB : Hid (_) := HB0
  generalize w2.heap.size = M at m2
  have H0 : Hid (_) := And.intro m2 b2
  clear H2 B1 b1 hb hg o2 m2 b2 HB0 hb0 hg0
  go_wp2_with fail
  go_loopw [9] (fun i wr => ∃ (k : Nat) (s : Vs), k ≤ len ∧ i = .int .i64 ((k : Nat) : Int) ∧ VR wr b g M 3 s ∧ Below w.heap.size w wr) (fun i _ => len - (intOf i).toNat)
  case atStart => exact ⟨0, _, by omega, rfl, H0.out.1, H0.out.2⟩
  case round =>
    clear H0
    obtain ⟨k, s, hk, rfl, m, bb⟩ := hrel
    by_cases hlt : k < len
    · obtain ⟨b', off, rfl, hbb, hcc⟩ := HC.out (by omega)
      obtain ⟨K, p, o, y, l, c, ds, q0, q1, q2, q3, Rd, hl⟩ := hcc k hlt
      have c0 : wr.cell? ⟨b', off + k * 4, none⟩ = some (.int .i64 K) := (bb.cell (p := ⟨b', off + k * 4, none⟩) hbb).trans q0
      have c1 := (bb.cell (p := ⟨b', off + k * 4 + 1, none⟩) hbb).trans q1
      have c2 := (bb.cell (p := ⟨b', off + k * 4 + 2, none⟩) hbb).trans q2
      have c3 := (bb.cell (p := ⟨b', off + k * 4 + 3, none⟩) hbb).trans q3
      have q := call_any b g M 3 s K p o y l c ds wr m (Rd.below bb) hl
      have B0 : Hid (_) := bb
      clear HC hcc q0 q1 q2 q3 m bb Rd
      go_wp2_with fail
      refine q.mono ?_
      rintro e w3 ⟨rfl, H⟩
      clear q c0 c1 c2 c3
      go_wp2_with fail
      go_roundw
      case rel => exact ⟨k + 1, _, by omega, by go_num, H.out.2, H.out.1.below B0.out HB.out B0.out.size⟩
      case measure => simp [intOf] <;> omega
    · clear HC
      have Hb : Hid (_) := bb
      have Hm : Hid (_) := m
      clear bb m
      go_wp2_with fail
      refine (vrun_any b g M 3 s true wr Hm.out).mono ?_
      rintro e w3 ⟨rfl, H3⟩
      have b3 := H3.out.1.below Hb.out HB.out Hb.out.size
      have m3 := H3.out.2
      clear H3 Hm Hb
      have K3 : Hid (_) := And.intro b3 m3
      clear b3 m3
      go_wp2_with fail
      refine (vhold_any b g M 3 _ false w3 K3.out.2).mono ?_
      rintro e w4 ⟨rfl, H4⟩
      have b4 := H4.out.1.below K3.out.1 HB.out K3.out.1.size
      have m4 := H4.out.2
      have K4 : Hid (_) := And.intro b4 m4
      clear b4 m4 H4 K3
      go_wp2_with fail
      refine (vtrip_any b g M 3 _ x w4 K4.out.2).mono ?_
      rintro e w5 ⟨rfl, H5⟩
      have b5 := H5.out.1.below K4.out.1 HB.out K4.out.1.size
      have m5 := H5.out.2
      obtain ⟨L, B, hL, he⟩ := way_state s x hx
      rw [he] at m5
      have K5 : Hid (_) := And.intro b5 m5
      generalize vtripB _ x = tb
      clear b5 m5 H5 K4 he
      have q1 := vreq_any b g M 3 _ w5 K5.out.2
      rw [way_req0] at q1
      go_wp2_with (go_at_call 18; refine q1.mono ?_; rintro e w' ⟨rfl, hw⟩; have hw := hw.symm; subst hw)
      refine (vack_any b g M 3 _ w5 K5.out.2).mono ?_
      rintro e w6 ⟨rfl, H6⟩
      have b6 := H6.out.1.below K5.out.1 HB.out K5.out.1.size
      have m6 := H6.out.2
      rw [way_ack0] at m6
      rw [way_err0]
      have K6 : Hid (_) := And.intro b6 m6
      clear b6 m6 H6 K5 q1
      go_wp2_with fail
      refine (vfresh_any b g M 3 _ w6 K6.out.2).mono ?_
      rintro e w7 ⟨rfl, H7⟩
      have b7 := H7.out.1.below K6.out.1 HB.out K6.out.1.size
      have m7 := H7.out.2
      rw [way_fresh L hL] at m7
      have K7 : Hid (_) := And.intro b7 m7
      clear b7 m7 H7 K6
      have q2 := vreq_any b g M 3 _ w7 K7.out.2
      rw [way_req1 L hL] at q2
      go_wp2_with (go_at_call 18; refine q2.mono ?_; rintro e w' ⟨rfl, hw⟩; have hw := hw.symm; subst hw)
      refine (vack_any b g M 3 _ w7 K7.out.2).mono ?_
      rintro e w8 ⟨rfl, H8⟩
      have b8 := H8.out.1.below K7.out.1 HB.out K7.out.1.size
      have m8 := H8.out.2
      rw [way_ack1 L hL] at m8
      rw [way_err1 L hL]
      have K8 : Hid (_) := And.intro b8 m8
      clear b8 m8 H8 K7 q2
      have q3 := vlat_any b g M 3 _ w8 K8.out.2
      go_wp2_with (go_at_call 13; refine q3.mono ?_; rintro e w' ⟨rfl, hw⟩; have hw := hw.symm; subst hw)
      refine (vout_any b g M 3 _ w8 K8.out.2).mono ?_
      rintro e w9 ⟨v, rfl, H9⟩
      have o9 : Off [] w8 w9 := Off.of_below H9.out.2
      have b9 := o9.below K8.out.1 (by simp) K8.out.1.size
      have m9 := K8.out.2.new_ o9
      obtain ⟨a9, c9, rfl, _⟩ := own_row8 H9.out.1 (fun i _ => by show (0 : Nat) < 256; omega)
      rw [show von ⟨true, false, false, 0, false, B⟩ = false from rfl]
      have K9 : Hid (_) := And.intro b9 m9
      have R9 := HR.out.below b9
      have hby := R9.byte
      have hbelA : Below w9.heap.size w9 (w9.alloc (.cells #[] 5)) := (Below.refl _ _).alloc (Nat.le_refl _) _
      have R0 := R9.below hbelA
      have O0 := own0V w9.heap.size bs w9 (Nat.le_refl _)
      have hszA := hbelA.size
      clear b9 m9 H9 K8 q3 o9 R9
      go_wp2_with (at_builtin; refine wpList_let (by kernel_rfl) ?_; refine wpList_append_row8 rfl (.tmp 75) (.tmp 76) 29 rfl w9.heap.size 5 i0 (.int .u8 0) Try.underlying29 hi hz0 hz1 hz2 rfl _ 0 _ rfl O0 a2 3 cap2 bs rfl R0 (by unfold maxLen; omega) (by omega) hszA ?_)
      intro v10 w10 hown hgrow
      have hbel : Below w9.heap.size w9 w10 := hbelA.grown hgrow hszA (fun k hk => (O0.lt k hk).1)
      rw [show CB bs 0 = [] from rfl, List.nil_append] at hown
      obtain ⟨a10, c10, rfl, R10⟩ := own_row8 (by simpa using hown) hby
      have o10 : Off [] w9 w10 := Off.of_below hbel
      have q4 := vtake_any b g M 3 _ a10 3 c10 bs w10 (K9.out.2.new_ o10) R10
      rw [show vtakeE 3 3 = 0 from rfl, show (if 3 = 3 then vtake ⟨true, false, false, 0, false, B⟩ bs else ⟨true, false, false, 0, false, B⟩) = ⟨true, false, false, 0, true, bs⟩ from rfl] at q4
      have K10 : Hid (_) := o10.below K9.out.1 (by simp) K9.out.1.size
      clear hown hgrow hbel O0 R0 R10 hbelA o10 K9 hszA
      go_wp2_with fail
      refine q4.mono ?_
      rintro e w11 ⟨rfl, H11⟩
      have b11 := H11.out.1.below K10.out HB.out K10.out.size
      have K11 : Hid (_) := And.intro b11 H11.out.2
      clear b11 H11 K10 q4
      go_wp2_with fail
      refine (vout_any b g M 3 _ w11 K11.out.2).mono ?_
      rintro e w12 ⟨v, rfl, H12⟩
      have b12 := (Off.of_below (l := []) H12.out.2).below K11.out.1 (by simp) K11.out.1.size
      rw [show von ⟨true, false, false, 0, true, bs⟩ = true from rfl]
      have O12 : w12.ownsRow w11.heap.size 5 1 v 3 (CB bs 3) := H12.out.1
      obtain ⟨a12, c12, rfl, R12⟩ := own_row8 O12 hby
      have k1 := conv_any a12 3 c12 bs w12 R12
      have k2 := conv_any a2 3 cap2 bs w12 (HR.out.below b12)
      have K12 : Hid (_) := b12
      generalize BA bs 3 = X at k1 k2
      clear b12 O12 R12 H12 K11 HR
      go_wp2_with fail
      go_ret
      exact ⟨by simp, K12.out⟩
set_option maxRecDepth 100000 in
set_option maxHeartbeats 2000000 in
theorem way_out (a : Option Addr) (len cap : Nat) (x : Int) (a2 : Option Addr) (len2 cap2 : Nat) (w : World) (h : x = 0 ∨ ¬ len2 = 3) :
    Calls Try.prog 5 #[.slice a len cap, .int .i64 x, .slice a2 len2 cap2] w fun e w' => e = .returned (.bool true) ∧ Below w.heap.size w w' := by
  by_cases hx : x = 0
  · subst hx
    clear h
    go_enter Try.func5, Try.ntmps5
    go_wp2_with fail
    refine (awake11 w).mono ?_
    rintro e w1 ⟨rfl, b1⟩
    have B1 : Hid (_) := b1
    clear b1
    go_wp2_with fail
    go_ret
    exact ⟨rfl, B1.out⟩
  · have hn : ¬ (len2 : Int) = 3 := by omega
    have e1 : ((len2 : Int) != 3) = true := by simpa using hn
    have e2 : (x == 0) = false := by simpa using hx
    clear h hn hx
    go_enter Try.func5, Try.ntmps5
    go_wp2_with fail
    refine (awake11 w).mono ?_
    rintro e w1 ⟨rfl, b1⟩
    have B1 : Hid (_) := b1
    clear b1
    go_wp2_with fail
    go_ret
    exact ⟨rfl, B1.out⟩
theorem passiveWay_walk (a0 : Option Addr) (len0 cap0 : Nat) (a1 : Int) (a2 : Option Addr) (len2 cap2 : Nat) (z2 : List Int) (w : World) (w0 : OpRow w a0 len0) (_w1 : (Lit.int .i64 a1).wf = true) (w2 : BRow .u8 w a2 len2 cap2 z2) :
    Calls Try.prog 5 #[.slice a0 len0 cap0, .int .i64 a1, .slice a2 len2 cap2] w fun e w' => e = .returned (.bool true) ∧ Below w.heap.size w w' := by
  by_cases h : a1 = 0 ∨ ¬ len2 = 3
  · exact way_out a0 len0 cap0 a1 a2 len2 cap2 w h
  · obtain rfl : len2 = 3 := by omega
    exact way_in a0 len0 cap0 a1 (fun e => h (.inl e)) a2 cap2 _ w w0 w2.row8

end Go.Proofs.Ytjdedopijplblaa
