/- Part 36 of the texts on which the proofs of layer 13 rest: contracts of Go functions. -/
import Derived.Test.YtndjepeolamedaaGreatPkB17
import Derived.Test.YtndjepeolamedaaGreatPkB34
namespace Go.Proofs.YtndjepeolamedaaGreat
set_option maxRecDepth 100000
open Go.RowKit
theorem flag_bits13 (on rq lt hd : Bool) (ff : Nat) (h : ff = (if on = true then 0 else 1) + (if rq = true then 2 else 0) + (if lt = true then 4 else 0) + (if hd = true then 8 else 0)) : (bits BinOp.and IntKind.i64 (ff : Int) 1 != 0) = !on ∧ (bits BinOp.and IntKind.i64 (ff : Int) 2 != 0) = rq ∧ (bits BinOp.and IntKind.i64 (ff : Int) 4 != 0) = lt ∧ (bits BinOp.and IntKind.i64 (ff : Int) 8 != 0) = hd := by
  subst h
  cases on <;> cases rq <;> cases lt <;> cases hd <;> exact ⟨by kernel_rfl, by kernel_rfl, by kernel_rfl, by kernel_rfl⟩
theorem BA_zero1 : BA (fun _ => 0) 1 = ⟨#[0]⟩ := by decide
def Vh (s : Sd) (X : ByteArray) (b : Bool) : Prop := X = BA s.ap 1 ∧ b = s.hd ∧ (s.st = 6 → s.ap = (fun _ => 0) ∧ s.hd = false)
theorem Vh.same {s s' : Sd} {X : ByteArray} {b : Bool} (h : Vh s X b) (k : s'.ap = s.ap ∧ s'.hd = s.hd ∧ s'.st = s.st) : Vh s' X b := by
  obtain ⟨k1, k2, k3⟩ := k
  exact ⟨by rw [k1]; exact h.1, by rw [k2]; exact h.2.1, fun e => by rw [k1, k2]; exact h.2.2 (by omega)⟩
theorem Vh.zero {s' : Sd} (k1 : s'.ap = (fun _ => 0)) (k2 : s'.hd = false) : Vh s' ⟨#[0]⟩ false := ⟨by rw [k1]; exact BA_zero1.symm, k2.symm, fun _ => ⟨k1, k2⟩⟩
set_option maxRecDepth 100000 in
set_option maxHeartbeats 16000000 in
theorem dflags_go (a0 : Option Addr) (len0 cap0 : Nat) (w : World) (hO : OpRow w a0 len0) :
    Calls Tryz.prog 5 #[.slice a0 len0 cap0] w fun e w' => e = .returned (.bool true) ∧ Below w.heap.size w w' := by
  obtain ⟨i0, hi, hz0, hz1, hz2⟩ := info_parts info_u8
  have hbd := build0D
  obtain ⟨hlen, h0⟩ := hO
  have HC : Hid (_) := h0
  clear h0
  go_enter Tryz.func5, Tryz.ntmps5
  go_wp2_with fail
  refine (awake13 _).mono ?_
  rintro e w1 ⟨rfl, b1⟩
  have H2 : Hid (_) := b1
  clear b1
  have qM := new_ok 16 w1 (by omega)
  go_wp2_with fail
  refine qM.mono ?_
  rintro e w4 ⟨m, g, rfl, h4⟩
  obtain ⟨lm, lg, o4, M4⟩ := h4.out
  have b4 : Below w1.heap.size w1 w4 := o4.below (Below.refl _ _) (by simp) (Nat.le_refl _)
  have qR := rnew_ok 16 w4 (by omega)
  have H4 : Hid (_) := And.intro b4 (And.intro M4 (And.intro lm lg))
  clear qM h4 lm lg o4 M4 b4
  go_wp2_with fail
  refine qR.mono ?_
  rintro e w5 ⟨r, q, rfl, h5⟩
  obtain ⟨lr, lq, o5, R5⟩ := h5.out
  obtain ⟨b4, M4, lm, lg⟩ := H4.out
  have M5 := M4.off o5 (by simp) (by simp)
  have b5 : Below w1.heap.size w1 w5 := o5.below b4 (by simp) b4.size
  have m4 := M4.lt
  have g4 := M4.lg
  have s4 := b4.size
  have H5 : Hid (_) := And.intro b5 (And.intro M5 (And.intro R5 (And.intro (And.intro lm (And.intro lg (And.intro (by omega : w1.heap.size ≤ r) (by omega : w1.heap.size ≤ q)))) (by omega : m ≠ r ∧ m ≠ q ∧ g ≠ r ∧ g ≠ q))))
  clear qR h5 lr lq o5 R5 b4 M4 lm lg M5 b5 m4 g4 s4 H4
  go_wp2_with fail
  refine (small_any w5).mono ?_
  rintro e w6 ⟨rfl, b6'⟩
  obtain ⟨b5, M5, R5, h0, hne⟩ := H5.out
  have b6 := b5.trans (b6'.mono b5.size)
  have M6 := M5.off (Off.of_below (l := []) b6') (by simp) (by simp)
  have R6 := R5.off (Off.of_below (l := []) b6') (by simp) (by simp)
  have qN := newD_ok m g 16 50 P0 P0_ok M0 w6 M6 (by omega) (by decide) (open0 50 (by omega)).1
  rw [(open0 50 (by omega)).2] at qN
  have H6 : Hid (_) := And.intro b6 (And.intro R6 (And.intro h0 hne))
  clear b5 M5 R5 h0 hne b6 M6 R6 b6' H5
  go_wp2_with fail
  refine qN.mono ?_
  rintro e w7 ⟨d, rfl, h7⟩
  clear qN
  have H7 : Hid (_) := h7.out
  clear h7
  go_wp2_with fail
  refine (small_any w7).mono ?_
  rintro e w8 ⟨rfl, b8'⟩
  obtain ⟨b6, R6, h0, hne⟩ := H6.out
  obtain ⟨U, o7, D7, hU⟩ := H7.out
  have R7 := R6.off o7 (by simp; omega) (by simp; omega)
  have R8 := R7.off (Off.of_below (l := []) b8') (by simp) (by simp)
  have qN := rnew_any r q 16 50 P0 P0_ok M0 w8 R8 (by omega) (by decide)
  rw [(open0 50 (by omega)).1, (open0 50 (by omega)).2] at qN
  have rl := R6.lt
  have ql := R6.lg
  have H8 : Hid (_) := And.intro b6 (And.intro (o7.trans (Off.of_below b8')) (And.intro (D7.below b8') (And.intro hU (And.intro h0 (And.intro hne (And.intro rl (And.intro ql b8'.size)))))))
  clear b6 R6 h0 hne o7 D7 hU R7 R8 rl ql b8' H6 H7
  go_wp2_with fail
  refine qN.mono ?_
  rintro e w9 ⟨pr, rfl, h9⟩
  obtain ⟨o9, _, D9, _⟩ := h9.out
  obtain ⟨e', V, rfl, RR', hV⟩ := D9 trivial
  obtain ⟨b6, o7, D7, hU, h0, hne, rl, ql, s78⟩ := H8.out
  have T : Two w1 w9 ⟨d, m, g, e', r, q, 16, 50, P0, []⟩ (dnew M0) := two_made b6 o7 D7 hU o9 RR' hV h0 hne ⟨rl, ql⟩ rfl
  have HT : Hid (_) := T
  clear qN h9 o9 D9 RR' hV b6 o7 D7 hU h0 hne rl ql T H8 s78
  go_wp2_with fail
  go_loopw [11, 12, 13, 14, 15, 16, 17, 18, 19, 20, 21, 22] (fun cv ch ci _ _ _ _ _ _ _ _ _ wr => ∃ (j : Nat) (s : Sd) (VX : ByteArray) (hb : Bool), j ≤ 300 ∧ ci = .int .i64 ((j : Nat) : Int) ∧ cv = .string VX ∧ ch = .bool hb ∧ Hid (Two w1 wr ⟨d, m, g, e', r, q, 16, 50, P0, []⟩ s ∧ Iv P0 s ∧ s.L.length ≤ 3 * j ∧ s.ms.t ≤ 6 * (j : Int) ∧ Vh s VX hb)) (fun _ _ ci _ _ _ _ _ _ _ _ _ _ => 300 - (intOf ci).toNat)
  case atStart => exact ⟨0, dnew M0, ⟨#[0]⟩, false, by omega, rfl, rfl, rfl, HT.out, Iv.new_ _, Nat.le_refl _, by show (0 : Int) ≤ _; omega, Vh.zero rfl rfl⟩
  case round =>
    clear HT
    obtain ⟨j, s, VX, hb, hj, rfl, rfl, rfl, hR⟩ := hrel
    by_cases hlt : j < len0 ∧ j < 300
    · obtain ⟨bo, off, rfl, hbb, hcc⟩ := HC.out (by omega)
      obtain ⟨K, N, fl, od, ya, l, cc, ds, pp, zz, q0, q1, q2, q3, q4, q5, q6, Rd, hl, hN, hz, hlow⟩ := hcc j hlt.1
      have hk1 : (j : Int) < (len0 : Int) := by omega
      have hk2 : (j : Int) < 300 := by omega
      have bw : Below w.heap.size w wr := H2.out.trans (hR.out.1.mo.2.2.2.mono H2.out.size)
      have c0 := (bw.cell (p := ⟨bo, off + j * 7, none⟩) hbb).trans q0
      have c1 := (bw.cell (p := ⟨bo, off + j * 7 + 1, none⟩) hbb).trans q1
      have c2 := (bw.cell (p := ⟨bo, off + j * 7 + 2, none⟩) hbb).trans q2
      have c3 := (bw.cell (p := ⟨bo, off + j * 7 + 3, none⟩) hbb).trans q3
      have c4 := (bw.cell (p := ⟨bo, off + j * 7 + 4, none⟩) hbb).trans q4
      have c5 := (bw.cell (p := ⟨bo, off + j * 7 + 5, none⟩) hbb).trans q5
      have c6 := (bw.cell (p := ⟨bo, off + j * 7 + 6, none⟩) hbb).trans q6
      have HJ : Hid (_) := hlt.2
      obtain ⟨U, V, T⟩ := hR.out.1
      have bO : Below wr.heap.size wr (wr.alloc (.cells #[.int .i64 K, .int .i64 N, .int .i64 fl, .bool od, .slice ya l cc, .int .i64 pp, .int .u32 (zz : Nat)] 50)) := (Below.refl _ _).alloc (Nat.le_refl _) _
      have sw0 := bw.size
      have qF := frame_all13L e' r q 16 50 P0 V s K N fl od ya l cc ds pp zz (wr.alloc (.cells #[.int .i64 K, .int .i64 N, .int .i64 fl, .bool od, .slice ya l cc, .int .i64 pp, .int .u32 (zz : Nat)] 50)) (T.rw.below bO) ((Rd.below bw).below bO) (fun y hy h0 => Nat.lt_of_lt_of_le (hlow y hy h0) (Nat.le_trans sw0 bO.size)) hR.out.2.1.ss hz hl
      have HO : Hid (_) := And.intro T (And.intro hR.out.2 (And.intro Rd (And.intro hl (And.intro hN (And.intro hz (And.intro hlow bw))))))
      clear HC hcc q0 q1 q2 q3 q4 q5 q6 Rd hl hN hz hlow hlt bw hbb hR T bO sw0
      go_wp2_with fail
      refine qF.mono ?_
      rintro e v1 ⟨av, f, cv, ib, rfl, h1⟩
      clear qF c0 c1 c2 c3 c4 c5 c6
      obtain ⟨T, hRr, Rd, hl, hN, hz, hlow, bw⟩ := HO.out
      obtain ⟨hib, rf, lf, bF, farf, fo, foN⟩ := h1.out
      have bO : Below wr.heap.size wr (wr.alloc (.cells #[.int .i64 K, .int .i64 N, .int .i64 fl, .bool od, .slice ya l cc, .int .i64 pp, .int .u32 (zz : Nat)] 50)) := (Below.refl _ _).alloc (Nat.le_refl _) _
      have nO : (wr.alloc (.cells #[.int .i64 K, .int .i64 N, .int .i64 fl, .bool od, .slice ya l cc, .int .i64 pp, .int .u32 (zz : Nat)] 50)).heap.size = wr.heap.size + 1 := by simp
      have TO := T.below bO
      by_cases h7 : 1 ≤ K ∧ K ≤ 7
      · obtain rfl : ib = true := hib.trans (decide_eq_true h7)
        have hbelA : Below v1.heap.size v1 (v1.alloc (.cells #[] 5)) := (Below.refl _ _).alloc (Nat.le_refl _) _
        have R0 := rf.below hbelA
        have O0 := own0D v1.heap.size f.2 v1 (Nat.le_refl _)
        have hszA := hbelA.size
        have hfl := lf
        have H3 : Hid (_) := And.intro TO (And.intro rf (And.intro bF (And.intro farf (And.intro hRr (And.intro (fun y hy => rf.byte y hy : ∀ i, i < f.1 → f.2 i < 256) nO)))))
        clear T hRr Rd hl hN hz hlow bw bO nO TO hib rf lf bF farf fo foN h1 h7
        go_wp2_with (at_builtin; refine wpList_append_row8 rfl (.tmp 110) (.tmp 111) 22 rfl v1.heap.size 5 i0 (.int .u8 0) Tryz.underlying22 hi hz0 hz1 hz2 rfl _ 0 _ rfl O0 av f.1 cv f.2 rfl R0 (by unfold maxLen; omega) (by omega) hszA ?_)
        intro vz v3 hown3 hgrow3
        have b3 : Below v1.heap.size v1 v3 := hbelA.grown hgrow3 hszA (fun k hk => (O0.lt k hk).1)
        rw [show CB f.2 0 = [] from rfl, List.nil_append] at hown3
        have own3 : v3.ownsRow v1.heap.size 5 1 vz f.1 (CB f.2 f.1) := by simpa using hown3
        obtain ⟨TO, rf, bF, farf, hRr, y2, nO⟩ := H3.out
        obtain ⟨a3, c3, rfl, r3⟩ := own_row8 own3 y2
        have qA := recv_two w1 v3 (wr.alloc (.cells #[.int .i64 K, .int .i64 N, .int .i64 fl, .bool od, .slice ya l cc, .int .i64 pp, .int .u32 (zz : Nat)] 50)) ⟨d, m, g, e', r, q, 16, 50, P0, []⟩ s f av cv a3 c3 U V TO (bF.trans (b3.mono bF.size)) (fun y hy => (farf y hy).1) (rf.below b3) r3 hRr.1 (by have := hRr.2.1; have := HJ.out; omega) (by have := hRr.2.2.1; have := HJ.out; omega)
        have hM := Mo.of TO.dv
        have hG := gw_recv (P := P0) hM f.1 f.2
        have hI := hRr.1.recv P0_ok hM f.1 f.2
        have hA := apk_recv P0 50 16 s hRr.2.2.2.2.2 f.1 f.2
        have hFg := fgd_recv P0_ok hRr.1 hM f.1 f.2
        have H4 : Hid (_) := And.intro hRr (And.intro hG (And.intro hI (And.intro hA hFg)))
        clear hown3 hgrow3 b3 own3 TO rf bF farf hRr y2 nO r3 hM hG hI hA hFg O0 R0 hbelA hszA H3 hfl
        go_wp2_with fail
        refine qA.mono ?_
        rintro e v4 ⟨ax, cx, rfl, h4⟩
        clear qA
        have qB := h4.out
        unfold Hrd at qB
        clear h4
        generalize hRR : drecv P0 50 16 s f.1 f.2 = R at *
        clear hRR
        go_wp2_with fail
        refine qB.mono ?_
        rintro e v5 ⟨vy, rfl, h5⟩
        clear qB
        obtain ⟨T5, r5⟩ := h5.out
        obtain ⟨U5, V5, B5⟩ := id T5
        have qS := seeS_any d m g 16 50 P0 U5 R.s v5 B5.dv
        have H5 : Hid (Two w1 v5 ⟨d, m, g, e', r, q, 16, 50, P0, []⟩ R.s ∧ Row8 v5 ax R.f.1 cx R.f.2) := ⟨T5, r5⟩
        clear h5 T5 r5 B5
        go_wp2_with fail
        refine qS.mono ?_
        rintro e v6 ⟨xa, xc, rfl, h6⟩
        clear qS
        have bE : ∀ ob, Below v5.heap.size v5 (v6.alloc ob) := fun ob => h6.out.2.2.alloc h6.out.2.2.size ob
        have hrel : ∀ wz X b, Two w1 wz ⟨d, m, g, e', r, q, 16, 50, P0, []⟩ R.s → Vh R.s X b → Hid (Two w1 wz ⟨d, m, g, e', r, q, 16, 50, P0, []⟩ R.s ∧ Iv P0 R.s ∧ R.s.L.length ≤ 3 * (j + 1) ∧ R.s.ms.t ≤ 6 * ((j + 1 : Nat) : Int) ∧ Vh R.s X b) := fun wz X b tz vz => ⟨tz, H4.out.2.2.1, by have := H4.out.2.1.1; have := H4.out.1.2.1; omega, by have := H4.out.2.1.2; have := H4.out.1.2.2.1; omega, vz⟩
        have HRL : Hid (_) := hrel
        clear hrel
        by_cases he7 : R.e = 70
        · have hA := H4.out.2.2.2.1.1 he7
          have HV0 : Hid (_) := Vh.zero hA.1 hA.2
          have qD : ∀ ob : Obj, Calls Tryz.prog 30 #[.slice ax R.f.1 cx] (v6.alloc ob) fun e w' => ∃ (v0 v1 v2 v3 v4 : Int) (a' : Option Addr) (l' c' : Nat), e = .returned (.tuple #[.agg #[.int .i64 v0, .int .u32 v1, .int .u32 v2, .int .u32 v3, .int .i64 v4, .slice a' l' c'], .int .i64 (DE R.f.2 R.f.1)]) ∧ Hid (∀ oc, Two w1 (w'.alloc oc) ⟨d, m, g, e', r, q, 16, 50, P0, []⟩ R.s) := fun ob => by
            refine (refDec_any ax R.f.1 cx R.f.2 (v6.alloc ob) (H5.out.2.below (bE ob))).mono ?_
            rintro e w' ⟨p0, p1, p2, p3, p4, a', l', c', rfl, g⟩
            exact ⟨p0, p1, p2, p3, p4, a', l', c', rfl, fun oc => ((H5.out.1.below (bE ob)).below g).below ((Below.refl _ _).alloc (Nat.le_refl _) _)⟩
          clear h6 bE hA
          go_wp2_with fail
          refine (qD _).mono ?_
          rintro e v7 ⟨p0, p1, p2, p3, p4, a7, l7, c7, rfl, h7⟩
          clear qD
          go_wp2_with fail
          go_roundw
          case rel => exact ⟨j + 1, R.s, ⟨#[0]⟩, false, by have := HJ.out; omega, by go_num, rfl, rfl, HRL.out _ _ _ (h7.out _) HV0.out⟩
          case measure => have := HJ.out; simp [intOf] <;> omega
        · have hA := H4.out.2.2.2.1.2 he7
          have hV : Vh R.s VX hb := ⟨by rw [hA.1]; exact H4.out.1.2.2.2.1, by rw [hA.2.1]; exact H4.out.1.2.2.2.2.1, fun h => absurd h hA.2.2⟩
          have HV0 : Hid (_) := hV
          have n70 : (R.e == 70) = false := by simpa using he7
          have n70' : ¬ R.e = 70 := he7
          by_cases he0 : R.e = 0
          · rcases H4.out.2.2.2.2 he0 with hd | ⟨hd, hk⟩ | t
            · have qD : ∀ ob : Obj, Calls Tryz.prog 30 #[.slice ax R.f.1 cx] (v6.alloc ob) fun e w' => ∃ (v0 v1 v2 v3 v4 : Int) (a' : Option Addr) (l' c' : Nat), e = .returned (.tuple #[.agg #[.int .i64 v0, .int .u32 v1, .int .u32 v2, .int .u32 v3, .int .i64 v4, .slice a' l' c'], .int .i64 (DE R.f.2 R.f.1)]) ∧ Hid (∀ oc, Two w1 (w'.alloc oc) ⟨d, m, g, e', r, q, 16, 50, P0, []⟩ R.s) := fun ob => by
                refine (refDec_any ax R.f.1 cx R.f.2 (v6.alloc ob) (H5.out.2.below (bE ob))).mono ?_
                rintro e w' ⟨p0, p1, p2, p3, p4, a', l', c', rfl, g⟩
                exact ⟨p0, p1, p2, p3, p4, a', l', c', rfl, fun oc => ((H5.out.1.below (bE ob)).below g).below ((Below.refl _ _).alloc (Nat.le_refl _) _)⟩
              have nD : (DE R.f.2 R.f.1 != 0) = true := by simpa using hd
              have nD' : ¬ DE R.f.2 R.f.1 = 0 := hd
              generalize DE R.f.2 R.f.1 = DD at *
              clear h6 bE hA hV hd
              go_wp2_with fail
              refine (qD _).mono ?_
              rintro e v7 ⟨p0, p1, p2, p3, p4, a7, l7, c7, rfl, h7⟩
              clear qD
              go_wp2_with fail
              go_roundw
              case rel => exact ⟨j + 1, R.s, VX, hb, by have := HJ.out; omega, by go_num, rfl, rfl, HRL.out _ _ _ (h7.out _) HV0.out⟩
              case measure => have := HJ.out; simp [intOf] <;> omega
            · have qD : ∀ ob : Obj, Calls Tryz.prog 30 #[.slice ax R.f.1 cx] (v6.alloc ob) fun e w' => ∃ (kk : Nat) (v1 v2 v3 v4 : Int) (a' : Option Addr) (l' c' : Nat), e = .returned (.tuple #[.agg #[.int .i64 (kk : Nat), .int .u32 v1, .int .u32 v2, .int .u32 v3, .int .i64 v4, .slice a' l' c'], .int .i64 0]) ∧ Hid (kk ≠ 20 ∧ ∀ oc, Two w1 (w'.alloc oc) ⟨d, m, g, e', r, q, 16, 50, P0, []⟩ R.s) := fun ob => by
                refine (refDec_ok ax R.f.1 cx R.f.2 (v6.alloc ob) (H5.out.2.below (bE ob)) hd).mono ?_
                rintro e w' ⟨a', c', rfl, g⟩
                exact ⟨_, _, _, _, _, a', _, c', rfl, hk, fun oc => ((H5.out.1.below (bE ob)).below g.out.2).below ((Below.refl _ _).alloc (Nat.le_refl _) _)⟩
              clear h6 bE hA hV hd hk
              go_wp2_with fail
              refine (qD _).mono ?_
              rintro e v7 ⟨kk, p1, p2, p3, p4, a7, l7, c7, rfl, h7⟩
              clear qD
              have nk : ((kk : Int) != 20) = true := by have := h7.out.1; simp; omega
              go_wp2_with fail
              go_roundw
              case rel => exact ⟨j + 1, R.s, VX, hb, by have := HJ.out; omega, by go_num, rfl, rfl, HRL.out _ _ _ (h7.out.2 _) HV0.out⟩
              case measure => have := HJ.out; simp [intOf] <;> omega
            · obtain ⟨kk, hkk, t⟩ : ∃ k, k = 20 ∧ Tld R.f k P0.c R.s.ss R.s.sn (dflags R.s) P0.i R.s.ap := ⟨20, rfl, t⟩
              obtain ⟨ff, hff⟩ : ∃ f, f = dflags R.s := ⟨_, rfl⟩
              have qD : ∀ ob : Obj, Calls Tryz.prog 30 #[.slice ax R.f.1 cx] (v6.alloc ob) fun e w' => ∃ a' c', e = .returned (.tuple #[.agg #[.int .i64 (kk : Nat), .int .u32 (P0.c : Nat), .int .u32 (R.s.ss : Nat), .int .u32 (R.s.sn : Nat), .int .i64 (ff : Nat), .slice a' P0.i c'], .int .i64 0]) ∧ Hid ((∀ oc, Two w1 (w'.alloc oc) ⟨d, m, g, e', r, q, 16, 50, P0, []⟩ R.s) ∧ (∀ oc, (convert 22 9 (.slice a' P0.i c')).run Tryz.prog (w'.alloc oc) = .ok (.string VX) (w'.alloc oc)) ∧ w'.heap[v6.heap.size]? = some ob ∧ v6.heap.size < w'.heap.size) := fun ob => by
                have h := refDec_ok ax R.f.1 cx R.f.2 (v6.alloc ob) (H5.out.2.below (bE ob)) t.de
                rw [t.k, t.c, t.s, t.n, t.f, t.ln, ← hff] at h
                refine h.mono ?_
                rintro e w' ⟨a', c', rfl, g⟩
                have lt : v6.heap.size < (v6.alloc ob).heap.size := by rw [World.size_alloc]; omega
                have hby : ∀ i, i < P0.i → R.f.2 (15 + i) < 256 := fun i hi => by rw [t.bs i hi]; exact H5.out.1.mo.2.2.1 i hi
                refine ⟨a', c', rfl, fun oc => ((H5.out.1.below (bE ob)).below g.out.2).below ((Below.refl _ _).alloc (Nat.le_refl _) _), fun oc => ?_, (g.out.2.block _ lt).trans (heap_alloc_new v6 _), Nat.lt_of_lt_of_le lt g.out.2.size⟩
                have r7 : Row8 w' a' P0.i c' (fun i => R.f.2 (15 + i)) := own_slice8 g.out.1 hby
                have h := conv_any a' P0.i c' _ (w'.alloc oc) (r7.below ((Below.refl _ _).alloc (Nat.le_refl _) oc))
                rw [show BA (fun i => R.f.2 (15 + i)) P0.i = VX by rw [HV0.out.1]; exact BA_congr _ _ 1 t.bs] at h
                exact h
              have k20 : ((kk : Int) != 20) = false := by rw [hkk]; rfl
              obtain ⟨f1, f2, f3, f4⟩ := flag_bits13 (von R.s.v) (vreq R.s.v) (R.s.v.lat != 0) hb ff (by rw [hff, HV0.out.2.1]; unfold dflags; by_cases hz : R.s.v.lat = 0 <;> simp [hz])
              obtain ⟨lt, hlt⟩ : ∃ b, (R.s.v.lat != 0) = b := ⟨_, rfl⟩
              rw [hlt] at f3
              clear h6 bE hA hV t hkk hff
              go_wp2_with fail
              refine (qD _).mono ?_
              rintro e v7 ⟨a7, c7, rfl, h7⟩
              clear qD
              have eb : ∀ oc : Obj, (v7.alloc oc).heap[v6.heap.size]? = some _ := fun oc => (((Below.refl v7.heap.size v7).alloc (Nat.le_refl _) oc).block _ h7.out.2.2.2).trans h7.out.2.2.1
              have W3 : ∀ oc, (v7.alloc oc).cell? ⟨v6.heap.size, 3, none⟩ = some (.int .u32 (R.s.sn : Nat)) := fun oc => cell_of_row _ _ 3 _ _ _ (eb oc)
              have W5 : ∀ oc, (v7.alloc oc).cell? ⟨v6.heap.size, 5, none⟩ = some (.int .i64 R.s.v.lat) := fun oc => cell_of_row _ _ 5 _ _ _ (eb oc)
              have W6 : ∀ oc, (v7.alloc oc).cell? ⟨v6.heap.size, 6, none⟩ = some (.bool (vreq R.s.v)) := fun oc => cell_of_row _ _ 6 _ _ _ (eb oc)
              have W7 : ∀ oc, (v7.alloc oc).cell? ⟨v6.heap.size, 7, none⟩ = some (.bool (von R.s.v)) := fun oc => cell_of_row _ _ 7 _ _ _ (eb oc)
              have qu := h7.out.2.1
              clear eb
              generalize von R.s.v = on at *
              generalize vreq R.s.v = rq at *
              go_wp2_with fail
              go_roundw
              case rel => exact ⟨j + 1, R.s, VX, hb, by have := HJ.out; omega, by go_num, rfl, rfl, HRL.out _ _ _ (h7.out.1 _) HV0.out⟩
              case measure => have := HJ.out; simp [intOf] <;> omega
          · have n0 : (R.e != 0) = true := by simpa using he0
            have n0' : ¬ R.e = 0 := he0
            have qD : ∀ ob : Obj, Calls Tryz.prog 30 #[.slice ax R.f.1 cx] (v6.alloc ob) fun e w' => ∃ (v0 v1 v2 v3 v4 : Int) (a' : Option Addr) (l' c' : Nat), e = .returned (.tuple #[.agg #[.int .i64 v0, .int .u32 v1, .int .u32 v2, .int .u32 v3, .int .i64 v4, .slice a' l' c'], .int .i64 (DE R.f.2 R.f.1)]) ∧ Hid (∀ oc, Two w1 (w'.alloc oc) ⟨d, m, g, e', r, q, 16, 50, P0, []⟩ R.s) := fun ob => by
              refine (refDec_any ax R.f.1 cx R.f.2 (v6.alloc ob) (H5.out.2.below (bE ob))).mono ?_
              rintro e w' ⟨p0, p1, p2, p3, p4, a', l', c', rfl, g⟩
              exact ⟨p0, p1, p2, p3, p4, a', l', c', rfl, fun oc => ((H5.out.1.below (bE ob)).below g).below ((Below.refl _ _).alloc (Nat.le_refl _) _)⟩
            clear h6 bE hA hV
            go_wp2_with fail
            refine (qD _).mono ?_
            rintro e v7 ⟨p0, p1, p2, p3, p4, a7, l7, c7, rfl, h7⟩
            clear qD
            go_wp2_with fail
            go_roundw
            case rel => exact ⟨j + 1, R.s, VX, hb, by have := HJ.out; omega, by go_num, rfl, rfl, HRL.out _ _ _ (h7.out _) HV0.out⟩
            case measure => have := HJ.out; simp [intOf] <;> omega
      · obtain rfl : ib = false := hib.trans (decide_eq_false h7)
        have qS := seeS_any d m g 16 50 P0 U s v1 (TO.below bF).dv
        have eO1 : v1.heap[wr.heap.size]? = some (.cells #[.int .i64 K, .int .i64 N, .int .i64 fl, .bool od, .slice ya l cc, .int .i64 pp, .int .u32 (zz : Nat)] 50 (0, 0)) := (bF.block _ (by omega)).trans (heap_alloc_new wr _)
        have H3 : Hid (_) := And.intro (TO.below bF) (And.intro eO1 (And.intro bF.size nO))
        have HK7 : Hid (_) := h7
        clear T hRr Rd hl hN hz hlow bw bO nO TO hib rf lf bF farf fo foN h1 eO1 h7
        go_wp2_with fail
        refine qS.mono ?_
        rintro e v2 ⟨wa, wcp, rfl, h2⟩
        clear qS
        have hfl : ∀ wx, (Instr.field 57 (.agg #[.int .i64 (s.st : Nat), .int .u32 (s.ss : Nat), .int .u32 (s.nm : Nat), .int .u32 (s.sn : Nat), .int .i64 (s.dc : Nat), .int .i64 s.v.lat, .bool (vreq s.v), .bool (von s.v), .slice wa P0.o wcp]) 0).run Tryz.prog wx = .ok (.int .i64 (s.st : Nat)) wx := fun wx => by kernel_rfl
        obtain ⟨T, hRr, Rd, hl, hN, hz, hlow, bw⟩ := HO.out
        obtain ⟨T1, eO1, s1, nO⟩ := H3.out
        have T2 := T1.below h2.out.2.2
        have eO2 := (h2.out.2.2.block _ (by omega : wr.heap.size < v1.heap.size)).trans eO1
        have s2 := h2.out.2.2.size
        have TE : Two w1 v2 ⟨d, m, g, e', r, q, 16, 50, P0, [(wr.heap.size, some (.cells #[.int .i64 K, .int .i64 N, .int .i64 fl, .bool od, .slice ya l cc, .int .i64 pp, .int .u32 (zz : Nat)] 50 (0, 0)))]⟩ s := ⟨U, V, T2.tell _ (fun x hx => by
          simp only [List.mem_cons, List.not_mem_nil, or_false] at hx
          subst hx
          exact ⟨⟨by show wr.heap.size < _; omega, T.far (Nat.le_refl _)⟩, eO2⟩)⟩
        have bwE : Below w.heap.size w v2 := H2.out.trans (TE.mo.2.2.2.mono H2.out.size)
        have qP := step_op w1 v2 ⟨d, m, g, e', r, q, 16, 50, P0, [(wr.heap.size, some (.cells #[.int .i64 K, .int .i64 N, .int .i64 fl, .bool od, .slice ya l cc, .int .i64 pp, .int .u32 (zz : Nat)] 50 (0, 0)))]⟩ s K N fl od ya l cc ds pp zz TE (Rd.below bwE) (fun y hy h0 => Nat.lt_of_lt_of_le (hlow y hy h0) H2.out.size) hz hl hN hRr.1 (by have := hRr.2.1; have := HJ.out; omega) (by have := hRr.2.2.1; have := HJ.out; omega)
        have c0 : v2.cell? ⟨wr.heap.size, 0, none⟩ = some (.int .i64 K) := cell_of_row v2 _ 0 _ _ _ eO2
        have c1 : v2.cell? ⟨wr.heap.size, 1, none⟩ = some (.int .i64 N) := cell_of_row v2 _ 1 _ _ _ eO2
        have c2 : v2.cell? ⟨wr.heap.size, 2, none⟩ = some (.int .i64 fl) := cell_of_row v2 _ 2 _ _ _ eO2
        have c3 : v2.cell? ⟨wr.heap.size, 3, none⟩ = some (.bool od) := cell_of_row v2 _ 3 _ _ _ eO2
        have c4 : v2.cell? ⟨wr.heap.size, 4, none⟩ = some (.slice ya l cc) := cell_of_row v2 _ 4 _ _ _ eO2
        have c5 : v2.cell? ⟨wr.heap.size, 5, none⟩ = some (.int .i64 pp) := cell_of_row v2 _ 5 _ _ _ eO2
        have c6 : v2.cell? ⟨wr.heap.size, 6, none⟩ = some (.int .u32 (zz : Nat)) := cell_of_row v2 _ 6 _ _ _ eO2
        clear T hRr Rd hl hN hz hlow bw T1 eO1 s1 nO T2 eO2 s2 TE bwE h2 H3
        go_wp2_with fail
        refine qP.mono ?_
        rintro e v3 ⟨rfl, h3⟩
        clear qP c0 c1 c2 c3 c4 c5 c6
        obtain ⟨s', ⟨U3, V3, B3⟩, I3, L3, O3⟩ := h3.out
        have eO3 : v3.heap[wr.heap.size]? = some (.cells #[.int .i64 K, .int .i64 N, .int .i64 fl, .bool od, .slice ya l cc, .int .i64 pp, .int .u32 (zz : Nat)] 50 (0, 0)) := (B3.kp (wr.heap.size, some (.cells #[.int .i64 K, .int .i64 N, .int .i64 fl, .bool od, .slice ya l cc, .int .i64 pp, .int .u32 (zz : Nat)] 50 (0, 0))) (by simp)).2
        have T3 : Two w1 v3 ⟨d, m, g, e', r, q, 16, 50, P0, []⟩ s' := ⟨U3, V3, B3.tell [] (fun x hx => by cases hx)⟩
        have z0 : v3.cell? ⟨wr.heap.size, 0, none⟩ = some (.int .i64 K) := cell_of_row v3 _ 0 _ _ _ eO3
        have z1 : v3.cell? ⟨wr.heap.size, 1, none⟩ = some (.int .i64 N) := cell_of_row v3 _ 1 _ _ _ eO3
        have z2 : v3.cell? ⟨wr.heap.size, 2, none⟩ = some (.int .i64 fl) := cell_of_row v3 _ 2 _ _ _ eO3
        have z3 : v3.cell? ⟨wr.heap.size, 3, none⟩ = some (.bool od) := cell_of_row v3 _ 3 _ _ _ eO3
        have z4 : v3.cell? ⟨wr.heap.size, 4, none⟩ = some (.slice ya l cc) := cell_of_row v3 _ 4 _ _ _ eO3
        have z5 : v3.cell? ⟨wr.heap.size, 5, none⟩ = some (.int .i64 pp) := cell_of_row v3 _ 5 _ _ _ eO3
        have z6 : v3.cell? ⟨wr.heap.size, 6, none⟩ = some (.int .u32 (zz : Nat)) := cell_of_row v3 _ 6 _ _ _ eO3
        have rd3 : Row8 v3 ya l cc ds := HO.out.2.2.1.below (H2.out.trans (T3.mo.2.2.2.mono H2.out.size))
        have hrel : ∀ wz X b, Two w1 wz ⟨d, m, g, e', r, q, 16, 50, P0, []⟩ s' → Vh s' X b → Hid (Two w1 wz ⟨d, m, g, e', r, q, 16, 50, P0, []⟩ s' ∧ Iv P0 s' ∧ s'.L.length ≤ 3 * (j + 1) ∧ s'.ms.t ≤ 6 * ((j + 1 : Nat) : Int) ∧ Vh s' X b) := fun wz X b tz vz => ⟨tz, I3, by have := L3.1; have := HO.out.2.1.2.1; omega, by have := L3.2; have := HO.out.2.1.2.2.1; omega, vz⟩
        have HRL : Hid (_) := hrel
        have HP : Hid (_) := And.intro T3 (And.intro O3 HO.out.2.1.2.2.2)
        clear h3 B3 I3 L3 O3 eO3 T3 hrel
        by_cases h9 : K = 9
        · subst h9
          have o9 := HP.out.2.1.2.2.1 rfl
          by_cases h2 : l = 1 ∧ s.st ≠ 6
          · have e2 : ((l : Int) == 1) = true := by rw [h2.1]; rfl
            have e2' : (l : Int) = 1 := by rw [h2.1]; rfl
            have e6 : ((s.st : Int) != 6) = true := by have := h2.2; simp; omega
            have qv : ∀ m, (convert 22 9 (.slice ya l cc)).run Tryz.prog (v3.drewN m) = .ok (.string (BA ds l)) (v3.drewN m) := fun m => conv_any ya l cc ds (v3.drewN m) (rd3.below (below_drewN (Below.refl _ _) m))
            have qv0 := conv_any ya l cc ds v3 rd3
            have qv1 := conv_any ya l cc ds v3.drew (rd3.below (Below.drew (Below.refl _ _)))
            have T5 : Hid (∀ nn, Two w1 (v3.drewN nn) ⟨d, m, g, e', r, q, 16, 50, P0, []⟩ s') := fun nn => HP.out.1.below (below_drewN (Below.refl _ _) nn)
            have hs' : s'.ap = ds ∧ s'.hd = od ∧ s'.st = s.st := by rw [o9]; unfold dwriteS; rw [if_neg h2.2, if_pos (by show l = 1; exact h2.1)]; exact ⟨rfl, rfl, rfl⟩
            have HV0 : Hid (Vh s' (BA ds l) od) := ⟨by rw [hs'.1, h2.1], hs'.2.1.symm, fun h => absurd (hs'.2.2.symm.trans h) h2.2⟩
            clear rd3 hs' h2 o9
            go_wp2_with fail
            go_quiet (fail)
            go_wp2_with fail
            go_roundw
            case rel => exact ⟨j + 1, s', BA ds l, od, by have := HJ.out; omega, by go_num, rfl, rfl, HRL.out _ _ _ (T5.out _) HV0.out⟩
            case measure => have := HJ.out; simp [intOf] <;> omega
          · have hs' : s' = s := by
              rw [o9]; unfold dwriteS
              by_cases h6 : s.st = 6
              · rw [if_pos h6]
              · rw [if_neg h6, if_neg (by show ¬ l = 1; exact fun h => h2 ⟨h, h6⟩)]
            have HV0 : Hid (Vh s' VX hb) := by show Vh s' VX hb; rw [hs']; exact HP.out.2.2
            have hcs : ((l : Int) == 1) = false ∧ ¬ (l : Int) = 1 ∧ ¬ l = 1 ∨ (((l : Int) == 1) = true ∧ (l : Int) = 1) ∧ ((s.st : Int) != 6) = false := by
              by_cases h1 : l = 1
              · right
                have h6 : s.st = 6 := Classical.byContradiction (fun h => h2 ⟨h1, h⟩)
                exact ⟨⟨by rw [h1]; rfl, by rw [h1]; rfl⟩, by rw [h6]; rfl⟩
              · left; exact ⟨by simp; omega, by omega, h1⟩
            clear rd3 hs' h2 o9
            rcases hcs with ⟨e2, e2', e2''⟩ | ⟨⟨e2, e2'⟩, e6⟩
            all_goals
              go_wp2_with fail
              go_roundw
              case rel => exact ⟨j + 1, s', VX, hb, by have := HJ.out; omega, by go_num, rfl, rfl, HRL.out _ _ _ HP.out.1 HV0.out⟩
              case measure => have := HJ.out; simp [intOf] <;> omega
        · have n9 : (K == 9) = false := by simpa using h9
          have n9' : ¬ K = 9 := h9
          by_cases h11 : K = 11
          · subst h11
            have o11 := HP.out.2.1.2.2.2.2.1 rfl
            by_cases hn : N < 0
            · have hs' : s' = s := by rw [o11]; unfold dresetS; rw [if_pos hn]
              have HV0 : Hid (Vh s' VX hb) := by show Vh s' VX hb; rw [hs']; exact HP.out.2.2
              have g0 : ¬ 0 ≤ N := by omega
              clear rd3 hs' o11
              go_wp2_with fail
              go_roundw
              case rel => exact ⟨j + 1, s', VX, hb, by have := HJ.out; omega, by go_num, rfl, rfl, HRL.out _ _ _ HP.out.1 HV0.out⟩
              case measure => have := HJ.out; simp [intOf] <;> omega
            · have hs' : s'.ap = (fun _ => 0) ∧ s'.hd = false := by rw [o11]; unfold dresetS; rw [if_neg hn]; exact ⟨rfl, rfl⟩
              have HV0 : Hid (_) := Vh.zero hs'.1 hs'.2
              have g0 : 0 ≤ N := by omega
              clear rd3 hs' o11
              go_wp2_with fail
              go_roundw
              case rel => exact ⟨j + 1, s', ⟨#[0]⟩, false, by have := HJ.out; omega, by go_num, rfl, rfl, HRL.out _ _ _ HP.out.1 HV0.out⟩
              case measure => have := HJ.out; simp [intOf] <;> omega
          · have n11 : (K == 11) = false := by simpa using h11
            have n11' : ¬ K = 11 := h11
            have HV0 : Hid (Vh s' VX hb) := HP.out.2.2.same (call_ap13 HP.out.2.1 HK7.out h9 h11)
            clear rd3 h9 h11
            go_wp2_with fail
            go_roundw
            case rel => exact ⟨j + 1, s', VX, hb, by have := HJ.out; omega, by go_num, rfl, rfl, HRL.out _ _ _ HP.out.1 HV0.out⟩
            case measure => have := HJ.out; simp [intOf] <;> omega
    · have hc2 : (¬ (j : Int) < (len0 : Int)) ∨ ((j : Int) < (len0 : Int) ∧ ¬ (j : Int) < 300) := by omega
      have HF : Hid (_) := H2.out.trans (hR.out.1.mo.2.2.2.mono H2.out.size)
      clear hlt HC hR hj
      rcases hc2 with hk1 | ⟨hk1, hk2⟩
      all_goals
        go_wp2_with fail
        go_ret
        exact ⟨rfl, HF.out⟩
theorem deviceFlags_walk (a0 : Option Addr) (len0 cap0 : Nat) (w : World) (w0 : OpRow w a0 len0) :
    Calls Tryz.prog 5 #[.slice a0 len0 cap0] w fun e w' => e = .returned (.bool true) ∧ Below w.heap.size w w' := dflags_go a0 len0 cap0 w w0
end Go.Proofs.YtndjepeolamedaaGreat
