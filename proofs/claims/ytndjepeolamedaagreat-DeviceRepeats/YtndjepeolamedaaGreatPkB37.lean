/- Part 38 of the texts on which the proofs of layer 13 rest: contracts of Go functions. -/
import Derived.Test.YtndjepeolamedaaGreatPkB13
import Derived.Test.YtndjepeolamedaaGreatPkB17
import Derived.Test.YtndjepeolamedaaGreatPkB34
import Derived.Test.YtndjepeolamedaaGreatPkB36
namespace Go.Proofs.YtndjepeolamedaaGreat
set_option maxRecDepth 100000
open Go.RowKit
theorem mod3R (x : Int) : ∃ U m : Nat, m < 3 ∧ IntKind.u64.wrap x = (U : Int) ∧ (U : Int).tmod 3 = (m : Int) ∧ (U : Int) % 3 = (m : Int) ∧ IntKind.i64.wrap (m : Int) = (m : Int) ∧ IntKind.u64.wrap (m : Int) = (m : Int) ∧ (1 : Int) + (m : Int) = ((1 + m : Nat) : Int) ∧ IntKind.i64.wrap ((1 : Int) + (m : Int)) = ((1 + m : Nat) : Int) := by
  have e : IntKind.u64.wrap x = x % 18446744073709551616 := by rw [IntKind.wrap_u64]
  refine ⟨(x % 18446744073709551616).toNat, (x % 18446744073709551616).toNat % 3, by omega, by rw [e]; omega, ?_, by omega, ?_, ?_, by omega, ?_⟩
  · rw [Int.tmod_eq_emod_of_nonneg (by omega)]; omega
  · rw [IntKind.wrap_i64]; omega
  · rw [IntKind.wrap_u64]; omega
  · rw [IntKind.wrap_i64]; omega
theorem mod4R (x : Int) : ∃ U m : Nat, m < 4 ∧ IntKind.u64.wrap x = (U : Int) ∧ (U : Int).tmod 4 = (m : Int) ∧ (U : Int) % 4 = (m : Int) ∧ IntKind.i64.wrap (m : Int) = (m : Int) ∧ IntKind.u64.wrap (m : Int) = (m : Int) := by
  have e : IntKind.u64.wrap x = x % 18446744073709551616 := by rw [IntKind.wrap_u64]
  refine ⟨(x % 18446744073709551616).toNat, (x % 18446744073709551616).toNat % 4, by omega, by rw [e]; omega, ?_, by omega, ?_, ?_⟩
  · rw [Int.tmod_eq_emod_of_nonneg (by omega)]; omega
  · rw [IntKind.wrap_i64]; omega
  · rw [IntKind.wrap_u64]; omega
theorem own_blk {w : World} {M e n m cap : Nat} {a : Option Addr} {xs : List Value} (h : w.ownsRow M e 1 (.slice a m cap) n xs) (x : Addr) (hx : a = some x) : (Value.slice a m cap).ownBlock = some x.block := by
  rcases h.2 with hn | ⟨g', cap', cur', he, hg', hh, _⟩
  · have := hn.1; rw [hx] at this; cases this
  · rw [hx] at he ⊢; cases he; rfl
def Hrd2 (w0 w : World) (L : Pl) (s : Sd) (f : Fm) (av : Option Addr) (cv : Nat) (ax : Option Addr) (cx : Nat) : Prop :=
  Calls Tryz.prog 25 #[.pointer (some ⟨L.e, 0, none⟩), .slice av f.1 cv] w fun e w' => ∃ v, e = .returned (.tuple #[v, .int .i64 (drecv L.P L.mx L.n s f.1 f.2).e]) ∧ Hid (∃ U V, Bt w0 w' L (drecv L.P L.mx L.n s f.1 f.2).s (drecv L.P L.mx L.n s f.1 f.2).s [] U V ∧ Row8 w' ax (drecv L.P L.mx L.n s f.1 f.2).f.1 cx (drecv L.P L.mx L.n s f.1 f.2).f.2 ∧ ∀ y, ax = some y → y.block < w'.heap.size ∧ y.block ∉ U ∧ y.block ∉ V)
theorem recv_two2 (w0 w wb : World) (L : Pl) (s : Sd) (f : Fm) (av : Option Addr) (cv : Nat) (a3 : Option Addr) (c3 : Nat) (U V : List Nat) (T0 : Bt w0 wb L s s [] U V) (b : Below wb.heap.size wb w) (hfar : ∀ y, av = some y → wb.heap.size ≤ y.block) (rv : Row8 w av f.1 cv f.2) (r3 : Row8 w a3 f.1 c3 f.2) (hv : Iv L.P s) (hL : s.L.length < 800000) (ht : s.ms.t < 9223372036854774000) :
    Calls Tryz.prog 24 #[.pointer (some ⟨L.d, 0, none⟩), .slice a3 f.1 c3] w fun e w' => ∃ ax cx, e = .returned (.tuple #[.slice ax (drecv L.P L.mx L.n s f.1 f.2).f.1 cx, .int .i64 (drecv L.P L.mx L.n s f.1 f.2).e]) ∧ Hid (Hrd2 w0 w' L s f av cv ax cx) := by
  have T := T0.below b
  obtain ⟨B, y⟩ := id T.dv
  have hP := y.pok
  have hby := drecv_byte L.P L.mx L.n s y.apb f.1 f.2
  refine (receive4_any L.d L.m L.g L.n L.mx L.P U s a3 f.1 c3 f.2 w T.dv r3 (hv.sent hP) hv.od hL ht).mono ?_
  rintro e w4 ⟨vx, rfl, h4⟩
  obtain ⟨U4, g4, x4, fx, kx⟩ := h4.out
  have T4 := T.dev g4 x4
  obtain ⟨ax, cx, rfl, _⟩ := fx.row hby
  refine ⟨ax, cx, rfl, ?_⟩
  refine (rreceive_any L.e L.r L.q L.n L.mx L.P V s av f.1 cv f.2 w4 T4.rw (rv.off g4.off (fun y hy hm => ?_)) (hv.sent hP) hv.od hL ht hv.ss).mono ?_
  · have := hfar y hy
    have := T0.dv.ult _ hm
    omega
  rintro e w5 ⟨vy, rfl, h5⟩
  obtain ⟨V5, g5, x5, fy, ky⟩ := h5.out
  have T5 := T4.ref g5 x5
  have fx5 : Fr w5 w.heap.size (.slice ax (drecv L.P L.mx L.n s f.1 f.2).f.1 cx) (drecv L.P L.mx L.n s f.1 f.2).f := own_offk fx g5.off (fun k hk hm => by
    have := fx.ge k hk
    have := T.rw.ult k hm
    omega)
  obtain ⟨ax', cx', ex, rx⟩ := fx5.row hby
  simp only [Value.slice.injEq, true_and] at ex
  obtain ⟨rfl, rfl⟩ := ex
  refine ⟨vy, rfl, U4, V5, T5, rx, fun y hy => ?_⟩
  have f4 := own_far fx y hy
  have hob := own_blk fx y hy
  have hV : y.block ∉ V := fun hm => by have := T.rw.ult _ hm; omega
  exact ⟨Nat.lt_of_lt_of_le f4.2 g5.off.size, kx _ hob, g5.out f4.2 hV⟩
set_option maxRecDepth 100000 in
set_option maxHeartbeats 16000000 in
theorem drepeats_go (a0 a1 : Int) (w : World) :
    Calls Tryz.prog 4 #[.int .i64 a0, .int .i64 a1] w fun e w' => e = .returned (.bool true) ∧ Below w.heap.size w w' := by
  obtain ⟨i0, hi, hz0, hz1, hz2⟩ := info_parts info_u8
  have hbd := build0D
  obtain ⟨U0, fm, hfm, hF1, hF2, hF3, hF4, hF5, hF6, hF7⟩ := mod3R a0
  obtain ⟨lm, hlm⟩ : ∃ k, 1 + fm = k := ⟨_, rfl⟩
  rw [hlm] at hF6 hF7
  have HLM : Hid (1 ≤ lm ∧ lm ≤ 3) := by show 1 ≤ lm ∧ lm ≤ 3; omega
  clear hlm hfm
  obtain ⟨U1, tm, htm, hO1, hO2, hO3, hO4, hO5⟩ := mod4R a1
  have HTM : Hid (_) := htm
  clear htm
  go_enter Tryz.func4, Tryz.ntmps4
  go_wp2_with fail
  refine (awake13 _).mono ?_
  rintro e w1 ⟨rfl, b1⟩
  have H2 : Hid (_) := b1
  clear b1
  have qM := new_ok 16 w1 (by omega)
  go_wp2_with fail
  refine qM.mono ?_
  rintro e w4 ⟨m, g, rfl, h4⟩
  obtain ⟨lm, lg, o4, M4⟩ := h4.out
  have b4 : Below w1.heap.size w1 w4 := o4.below (Below.refl _ _) (by simp) (Nat.le_refl _)
  have qR := rnew_ok 16 w4 (by omega)
  have H4 : Hid (_) := And.intro b4 (And.intro M4 (And.intro lm lg))
  clear qM h4 lm lg o4 M4 b4
  go_wp2_with fail
  refine qR.mono ?_
  rintro e w5 ⟨r, q, rfl, h5⟩
  obtain ⟨lr, lq, o5, R5⟩ := h5.out
  obtain ⟨b4, M4, lm, lg⟩ := H4.out
  have M5 := M4.off o5 (by simp) (by simp)
  have b5 : Below w1.heap.size w1 w5 := o5.below b4 (by simp) b4.size
  have m4 := M4.lt
  have g4 := M4.lg
  have s4 := b4.size
  have H5 : Hid (_) := And.intro b5 (And.intro M5 (And.intro R5 (And.intro (And.intro lm (And.intro lg (And.intro (by omega : w1.heap.size ≤ r) (by omega : w1.heap.size ≤ q)))) (by omega : m ≠ r ∧ m ≠ q ∧ g ≠ r ∧ g ≠ q))))
  clear qR h5 lr lq o5 R5 b4 M4 lm lg M5 b5 m4 g4 s4 H4
  go_wp2_with fail
  refine (small_any w5).mono ?_
  rintro e w6 ⟨rfl, b6'⟩
  obtain ⟨b5, M5, R5, h0, hne⟩ := H5.out
  have b6 := b5.trans (b6'.mono b5.size)
  have M6 := M5.off (Off.of_below (l := []) b6') (by simp) (by simp)
  have R6 := R5.off (Off.of_below (l := []) b6') (by simp) (by simp)
  have qN := newD_ok m g 16 9 P0 P0_ok M0 w6 M6 (by omega) (by decide) (open0 9 (by omega)).1
  rw [(open0 9 (by omega)).2] at qN
  have H6 : Hid (_) := And.intro b6 (And.intro R6 (And.intro h0 hne))
  clear b5 M5 R5 h0 hne b6 M6 R6 b6' H5
  go_wp2_with fail
  refine qN.mono ?_
  rintro e w7 ⟨d, rfl, h7⟩
  clear qN
  have H7 : Hid (_) := h7.out
  clear h7
  go_wp2_with fail
  refine (small_any w7).mono ?_
  rintro e w8 ⟨rfl, b8'⟩
  obtain ⟨b6, R6, h0, hne⟩ := H6.out
  obtain ⟨U, o7, D7, hU⟩ := H7.out
  have R7 := R6.off o7 (by simp; omega) (by simp; omega)
  have R8 := R7.off (Off.of_below (l := []) b8') (by simp) (by simp)
  have qN := rnew_any r q 16 9 P0 P0_ok M0 w8 R8 (by omega) (by decide)
  rw [(open0 9 (by omega)).1, (open0 9 (by omega)).2] at qN
  have rl := R6.lt
  have ql := R6.lg
  have H8 : Hid (_) := And.intro b6 (And.intro (o7.trans (Off.of_below b8')) (And.intro (D7.below b8') (And.intro hU (And.intro h0 (And.intro hne (And.intro rl (And.intro ql b8'.size)))))))
  clear b6 R6 h0 hne o7 D7 hU R7 R8 rl ql b8' H6 H7
  go_wp2_with fail
  refine qN.mono ?_
  rintro e w9 ⟨pr, rfl, h9⟩
  obtain ⟨o9, _, D9, _⟩ := h9.out
  obtain ⟨e', V, rfl, RR', hV⟩ := D9 trivial
  obtain ⟨b6, o7, D7, hU, h0, hne, rl, ql, s78⟩ := H8.out
  have T : Two w1 w9 ⟨d, m, g, e', r, q, 16, 9, P0, []⟩ (dnew M0) := two_made b6 o7 D7 hU o9 RR' hV h0 hne ⟨rl, ql⟩ rfl
  have HT : Hid (_) := T
  clear qN h9 o9 D9 RR' hV b6 o7 D7 hU h0 hne rl ql T H8 s78
  go_wp2_with fail
  go_loopw [14, 15, 16, 17, 18, 19] (fun cf ck _ _ _ _ wr => ∃ (k : Nat) (s : Sd) (fa : Option Addr) (fl fc : Nat), 1 ≤ k ∧ k ≤ lm + 1 ∧ ck = .int .i64 ((k : Nat) : Int) ∧ cf = .slice fa fl fc ∧ Hid (∃ U V, Bt w1 wr ⟨d, m, g, e', r, q, 16, 9, P0, []⟩ s s [] U V ∧ Iv P0 s ∧ s.L.length ≤ 3 * k ∧ s.ms.t ≤ 6 * (k : Int) ∧ Rk k s ∧ (2 ≤ k → fl = (rpF (k - 1)).1 ∧ Row8 wr fa fl fc (rpF (k - 1)).2 ∧ ∀ y, fa = some y → y.block < wr.heap.size ∧ y.block ∉ U ∧ y.block ∉ V))) (fun _ ck _ _ _ _ _ => 6 - (intOf ck).toNat)
  case atStart =>
    obtain ⟨U, V, T⟩ := HT.out
    exact ⟨1, dnew M0, none, 0, 0, by omega, by have := HLM.out; omega, rfl, rfl, U, V, T, Iv.new_ _, by show 0 ≤ _; omega, by show (0 : Int) ≤ _; omega, ⟨fun _ => rfl, fun e => by omega⟩, fun e => by omega⟩
  case round =>
    clear HT
    obtain ⟨k, s, fa, fl, fc, hk1, hk2, rfl, rfl, hR⟩ := hrel
    obtain ⟨U, V, T, hv, hLn, htn, hRk, hfst⟩ := hR.out
    by_cases hc : k ≤ lm
    · have hi1 : (k : Int) ≤ (lm : Int) := by omega
      have hi1' : k ≤ lm := hc
      have qF := frame_op e' r q 16 9 P0 V s (k : Int) 0 0 false none 0 0 (fun _ => 0) 0 0 wr T.rw (row_nilX _ _) (fun y hy => by cases hy) hv.ss (by omega) (by omega) (by have := HLM.out; omega)
      have HR : Hid (_) := And.intro T (And.intro hv (And.intro hLn (And.intro htn (And.intro hRk (And.intro hk1 hk2)))))
      clear T hv hLn htn hRk hfst hR hk1 hk2 hc
      go_wp2_with fail
      refine qF.mono ?_
      rintro e v1 ⟨v, rfl, h1⟩
      obtain ⟨bF, f, F1, y1, l1, fo⟩ := h1.out
      obtain ⟨av, cv, rfl, rf⟩ := F1.row y1
      have farf : ∀ y, av = some y → wr.heap.size ≤ y.block := fun y hy => (own_far F1 y hy).1
      have hbelA : Below v1.heap.size v1 (v1.alloc (.cells #[] 5)) := (Below.refl _ _).alloc (Nat.le_refl _) _
      have R0 := rf.below hbelA
      have O0 := own0D v1.heap.size f.2 v1 (Nat.le_refl _)
      have hszA := hbelA.size
      have H3 : Hid (_) := And.intro rf (And.intro bF (And.intro farf (And.intro y1 fo)))
      clear qF h1 bF F1 y1 fo rf farf
      go_wp2_with (at_builtin; refine wpList_append_row8 rfl (.tmp 73) (.tmp 74) 22 rfl v1.heap.size 5 i0 (.int .u8 0) Tryz.underlying22 hi hz0 hz1 hz2 rfl _ 0 _ rfl O0 av f.1 cv f.2 rfl R0 (by unfold maxLen; omega) (by omega) hszA ?_)
      intro vz v3 hown3 hgrow3
      have b3 : Below v1.heap.size v1 v3 := hbelA.grown hgrow3 hszA (fun k hk => (O0.lt k hk).1)
      rw [show CB f.2 0 = [] from rfl, List.nil_append] at hown3
      have own3 : v3.ownsRow v1.heap.size 5 1 vz f.1 (CB f.2 f.1) := by simpa using hown3
      obtain ⟨rf, bF, farf, y1, fo⟩ := H3.out
      obtain ⟨T, hv, hLn, htn, hRk, hk1, hk2⟩ := HR.out
      obtain ⟨a3, c3, rfl, r3⟩ := own_row8 own3 y1
      have hlm := HLM.out
      have qA := recv_two2 w1 v3 wr ⟨d, m, g, e', r, q, 16, 9, P0, []⟩ s f av cv a3 c3 U V T (bF.trans (b3.mono bF.size)) farf (rf.below b3) r3 hv (by omega) (by omega)
      have hM := Mo.of T.dv
      have hG := gw_recv (P := P0) hM f.1 f.2
      have hI := hv.recv P0_ok hM f.1 f.2
      obtain ⟨hE, hFr, hNx⟩ := hRk.next (by omega) fo
      have HE : Hid (_) := hE
      have H4 : Hid (_) := And.intro hG (And.intro hI (And.intro hFr (And.intro hNx (And.intro hLn (And.intro htn (And.intro hk1 hk2))))))
      clear hown3 hgrow3 b3 own3 rf bF farf y1 fo T hv hLn htn hRk hk1 hk2 r3 hM hG hI hE hFr hNx O0 R0 hbelA hszA H3 HR l1 hlm
      go_wp2_with fail
      refine qA.mono ?_
      rintro e v4 ⟨ax, cx, rfl, h4⟩
      clear qA
      have qB := h4.out
      unfold Hrd2 at qB
      clear h4
      generalize hRR : drecv P0 9 16 s f.1 f.2 = R at *
      clear hRR
      rw [HE.out]
      go_wp2_with fail
      refine qB.mono ?_
      rintro e v5 ⟨vy, rfl, h5⟩
      clear qB
      go_wp2_with fail
      go_roundw
      case rel =>
        obtain ⟨U5, V5, B5, r5, far5⟩ := h5.out
        obtain ⟨hG, hI, hFr, hNx, hLn, htn, hk1, hk2⟩ := H4.out
        refine ⟨k + 1, R.s, ax, R.f.1, cx, by omega, by omega, by go_num, rfl, U5, V5, B5, hI, by have := hG.1; omega, by have := hG.2; omega, hNx, fun _ => ?_⟩
        rw [show k + 1 - 1 = k by omega, ← hFr]
        exact ⟨rfl, r5, far5⟩
      case measure => obtain ⟨_, _, _, _, _, _, hk1, hk2⟩ := H4.out; have := HLM.out; simp [intOf] <;> omega
    · have hi1 : ¬ (k : Int) ≤ (lm : Int) := by omega
      have hi1' : ¬ k ≤ lm := hc
      have hkl : k = lm + 1 := by omega
      have hlm := HLM.out
      obtain ⟨hfl, hfr, hff⟩ := hfst (by omega)
      have hRq := hRk.2 (by omega)
      rw [show k - 1 = lm by omega] at hfl hfr hRq
      have qS := seeS_any d m g 16 9 P0 U s wr T.dv
      have HR : Hid (_) := And.intro T (And.intro hv (And.intro (by omega : s.L.length ≤ 12) (And.intro (by omega : s.ms.t ≤ 24) (And.intro hRq (And.intro hfl (And.intro hfr hff))))))
      clear T hv hLn htn hRk hfst hR hk1 hk2 hc hkl hlm hfl hfr hff hRq
      go_wp2_with fail
      refine qS.mono ?_
      rintro e v1 ⟨wa, wcp, rfl, h1⟩
      clear qS
      have bA : Below v1.heap.size v1 (v1.alloc (.cells #[.int .i64 (s.st : Nat), .int .u32 (s.ss : Nat), .int .u32 (s.nm : Nat), .int .u32 (s.sn : Nat), .int .i64 (s.dc : Nat), .int .i64 s.v.lat, .bool (vreq s.v), .bool (von s.v), .slice wa P0.o wcp] 57)) := (Below.refl _ _).alloc (Nat.le_refl _) _
      have nA : (v1.alloc (.cells #[.int .i64 (s.st : Nat), .int .u32 (s.ss : Nat), .int .u32 (s.nm : Nat), .int .u32 (s.sn : Nat), .int .i64 (s.dc : Nat), .int .i64 s.v.lat, .bool (vreq s.v), .bool (von s.v), .slice wa P0.o wcp] 57)).heap.size = v1.heap.size + 1 := by simp
      have eA := heap_alloc_new v1 (.cells #[.int .i64 (s.st : Nat), .int .u32 (s.ss : Nat), .int .u32 (s.nm : Nat), .int .u32 (s.sn : Nat), .int .i64 (s.dc : Nat), .int .i64 s.v.lat, .bool (vreq s.v), .bool (von s.v), .slice wa P0.o wcp] 57)
      have s1 := h1.out.2.2.size
      have TA := (HR.out.1.below h1.out.2.2).below bA
      have hlm := HLM.out
      have qF := frame_op e' r q 16 9 P0 V s (lm : Int) 0 0 false none 0 0 (fun _ => 0) 0 0 (v1.alloc (.cells #[.int .i64 (s.st : Nat), .int .u32 (s.ss : Nat), .int .u32 (s.nm : Nat), .int .u32 (s.sn : Nat), .int .i64 (s.dc : Nat), .int .i64 s.v.lat, .bool (vreq s.v), .bool (von s.v), .slice wa P0.o wcp] 57)) TA.rw (row_nilX _ _) (fun y hy => by cases hy) HR.out.2.1.ss (by omega) (by omega) (by omega)
      have H3 : Hid (_) := And.intro TA (And.intro eA (And.intro (h1.out.2.1.below bA) (And.intro (fun y hy => own_far h1.out.1 y hy : ∀ y, wa = some y → wr.heap.size ≤ y.block ∧ y.block < v1.heap.size) (And.intro nA (And.intro s1 (h1.out.2.2.trans (bA.mono s1)))))))
      clear h1 bA nA eA s1 TA hlm
      go_wp2_with fail
      refine qF.mono ?_
      rintro e v2 ⟨v, rfl, h2⟩
      clear qF
      obtain ⟨bF, f, F1, y1, l1, fo⟩ := h2.out
      obtain ⟨bv, bc, rfl, rb⟩ := F1.row y1
      have farb : ∀ y, bv = some y → v1.heap.size + 1 ≤ y.block ∧ y.block < v2.heap.size := fun y hy => by have h := own_far F1 y hy; rw [H3.out.2.2.2.2.1] at h; exact h
      obtain ⟨TA, eA, rwa, farw, nA, s1, bwr⟩ := H3.out
      obtain ⟨T, hv, hLn, htn, hRq, hfl, hfr, hff⟩ := HR.out
      have T2 := TA.below bF
      have sF := bF.size
      have e2 := (bF.block v1.heap.size (by omega)).trans eA
      obtain ⟨KL, hKL⟩ : ∃ K : List (Nat × Option Obj), K = (v1.heap.size, v2.heap[v1.heap.size]?) :: (bv.toList.map (fun y => (y.block, v2.heap[y.block]?)) ++ (wa.toList.map (fun y => (y.block, v2.heap[y.block]?)) ++ fa.toList.map (fun y => (y.block, v2.heap[y.block]?)))) := ⟨_, rfl⟩
      have hTell : ∀ x, x ∈ KL → (x.1 < v2.heap.size ∧ x.1 ∉ U ∧ x.1 ∉ V) ∧ v2.heap[x.1]? = x.2 := by
        intro x hx
        rw [hKL] at hx
        simp only [List.mem_cons, List.mem_append, List.mem_map, Option.mem_toList] at hx
        rcases hx with rfl | ⟨y, hy, rfl⟩ | ⟨y, hy, rfl⟩ | ⟨y, hy, rfl⟩
        · exact ⟨⟨by show v1.heap.size < _; omega, T.far (by show wr.heap.size ≤ v1.heap.size; omega)⟩, rfl⟩
        · have h := farb y hy
          exact ⟨⟨h.2, T.far (by show wr.heap.size ≤ y.block; omega)⟩, rfl⟩
        · have h := farw y hy
          exact ⟨⟨by show y.block < _; omega, T.far h.1⟩, rfl⟩
        · have h := hff y hy
          exact ⟨⟨by show y.block < _; omega, h.2⟩, rfl⟩
      have TT : Bt w1 v2 ⟨d, m, g, e', r, q, 16, 9, P0, KL⟩ s s [] U V := T2.tell KL hTell
      have rfa : Row8 v2 fa fl fc (rpF lm).2 := (hfr.below bwr).below (bF.mono (by omega))
      have hIv := hv
      have H4 : Hid (_) := And.intro TT (And.intro hv (And.intro hLn (And.intro htn (And.intro hRq (And.intro hKL (And.intro rb (And.intro (rwa.below bF) (And.intro rfa (And.intro e2 (And.intro fo (And.intro y1 (hRq.ss : s.ss = 1))))))))))))
      subst hfl
      clear h2 bF F1 y1 fo rb farb TA eA rwa farw nA s1 bwr T hv hLn htn hRq hfr hff T2 sF e2 hTell TT rfa hIv hKL H3 HR
      go_wp2_with fail
      go_loopw [23, 24, 25] (fun c _ _ wr => ∃ (i : Nat) (t : Sd), i ≤ tm ∧ c = .int .i64 ((i : Nat) : Int) ∧ Hid ((∃ U V, Bt w1 wr ⟨d, m, g, e', r, q, 16, 9, P0, KL⟩ t s [] U V) ∧ Iv P0 t ∧ t.L.length ≤ 12 + 3 * i ∧ t.ms.t ≤ 24 + 6 * (i : Int) ∧ (∃ od, od ≤ i ∧ Rq t lm od) ∧ Sn s t)) (fun c _ _ _ => 6 - (intOf c).toNat)
      case atStart => exact ⟨0, s, Nat.zero_le _, rfl, ⟨_, _, H4.out.1⟩, H4.out.2.1, by have := H4.out.2.2.1; omega, by have := H4.out.2.2.2.1; omega, ⟨0, Nat.le_refl _, H4.out.2.2.2.2.1⟩, rfl, rfl, rfl, rfl, rfl, rfl⟩
      case round =>
        obtain ⟨i, t, hi_, rfl, hQ⟩ := hrel
        by_cases hc : i < tm
        · have hi3 : (i : Int) < (tm : Int) := by omega
          have hi3' : i < tm := hc
          obtain ⟨⟨U2, V2, B2⟩, I2, hL2, ht2, ⟨od, hod, hq⟩, hSn⟩ := hQ.out
          obtain ⟨TT, hv, hLn, htn, hRq, hKL, rb, rwa, rfa, e2, fo, y1, hs1⟩ := H4.out
          have hRb : ∀ wx : World, (∀ x, x ∈ KL → wx.heap[x.1]? = x.2) → Row8 wx bv f.1 bc f.2 ∧ Row8 wx wa P0.o wcp (vout s.v) ∧ Row8 wx fa (rpF lm).1 fc (rpF lm).2 ∧ wx.heap[v1.heap.size]? = some (.cells #[.int .i64 (s.st : Nat), .int .u32 (s.ss : Nat), .int .u32 (s.nm : Nat), .int .u32 (s.sn : Nat), .int .i64 (s.dc : Nat), .int .i64 s.v.lat, .bool (vreq s.v), .bool (von s.v), .slice wa P0.o wcp] 57 (0, 0)) := fun wx h =>
            ⟨rb.blk (fun y hy => h (y.block, v2.heap[y.block]?) (by rw [hKL]; simp [hy])), rwa.blk (fun y hy => h (y.block, v2.heap[y.block]?) (by rw [hKL]; simp [hy])), rfa.blk (fun y hy => h (y.block, v2.heap[y.block]?) (by rw [hKL]; simp [hy])), (h (v1.heap.size, v2.heap[v1.heap.size]?) (by rw [hKL]; simp)).trans e2⟩
          have rb2 := (hRb wr (fun x hx => (B2.kp x hx).2)).1
          have hbelA : Below wr.heap.size wr (wr.alloc (.cells #[] 5)) := (Below.refl _ _).alloc (Nat.le_refl _) _
          have R0 := rb2.below hbelA
          have O0 := own0D wr.heap.size f.2 wr (Nat.le_refl _)
          have hszA := hbelA.size
          have htm := HTM.out
          have hlm := HLM.out
          obtain ⟨hE, hFr, hq2, hSn2⟩ := rp_again (by omega) (by omega) hq hSn hs1 fo
          have hM := Mo.of B2.dv
          have hG := gw_recv (P := P0) hM f.1 f.2
          have hI := I2.recv P0_ok hM f.1 f.2
          have H5 : Hid (_) := And.intro B2 (And.intro I2 (And.intro hL2 (And.intro ht2 (And.intro hod (And.intro hRb (And.intro hG (And.intro hI (And.intro hFr (And.intro hq2 (And.intro hSn2 y1))))))))))
          have HE : Hid (_) := hE
          clear B2 I2 hL2 ht2 hod hq hSn TT hv hLn htn hRq hKL rb rwa rfa e2 fo y1 hs1 hRb rb2 htm hlm hE hFr hq2 hSn2 hM hG hI hQ hc
          go_wp2_with (at_builtin; refine wpList_append_row8 rfl (.tmp 104) (.tmp 105) 22 rfl wr.heap.size 5 i0 (.int .u8 0) Tryz.underlying22 hi hz0 hz1 hz2 rfl _ 0 _ rfl O0 bv f.1 bc f.2 rfl R0 (by unfold maxLen; omega) (by omega) hszA ?_)
          intro vz x3 hown3 hgrow3
          have b3 : Below wr.heap.size wr x3 := hbelA.grown hgrow3 hszA (fun k hk => (O0.lt k hk).1)
          rw [show CB f.2 0 = [] from rfl, List.nil_append] at hown3
          have own3 : x3.ownsRow wr.heap.size 5 1 vz f.1 (CB f.2 f.1) := by simpa using hown3
          obtain ⟨B2, I2, hL2, ht2, hod, hRb, hG, hI, hFr, hq2, hSn2, y1⟩ := H5.out
          obtain ⟨a3, c3, rfl, r3⟩ := own_row8 own3 y1
          have htm := HTM.out
          have B3 := B2.below b3
          have qA := receive4_any d m g 16 9 P0 U2 t a3 f.1 c3 f.2 x3 B3.dv r3 (I2.sent P0_ok) I2.od (by omega) (by omega)
          have hby := drecv_byte P0 9 16 t (by obtain ⟨B, y⟩ := B3.dv; exact y.apb) f.1 f.2
          generalize hRR : drecv P0 9 16 t f.1 f.2 = R at *
          clear hRR
          have H6 : Hid (_) := And.intro B3 hby
          clear hown3 hgrow3 b3 own3 B2 I2 hL2 ht2 hod hRb hG hI hFr hq2 hSn2 y1 r3 htm B3 hby O0 R0 hbelA hszA
          go_wp2_with fail
          refine qA.mono ?_
          rintro e x4 ⟨vo, rfl, h4⟩
          clear qA
          obtain ⟨U4, g4, D4, fx, kx⟩ := h4.out
          obtain ⟨B3, hby⟩ := H6.out
          have B4 := B3.dev g4 D4
          obtain ⟨ax, cx, rfl, rx⟩ := fx.row hby
          obtain ⟨B2, I2, hL2, ht2, hod, hRb, hG, hI, hFr, hq2, hSn2, y1⟩ := H5.out
          obtain ⟨X, hX⟩ : ∃ x, BA (rpF lm).2 (rpF lm).1 = x := ⟨_, rfl⟩
          rw [hFr] at rx
          have bd : Below x4.heap.size x4 x4.drew := Below.drew (Below.refl _ _)
          have hS : ∀ wx, Below x4.heap.size x4 wx → (wx.cell? ⟨v1.heap.size, 0, none⟩ = some (.int .i64 (s.st : Nat)) ∧ wx.cell? ⟨v1.heap.size, 1, none⟩ = some (.int .u32 (s.ss : Nat)) ∧ wx.cell? ⟨v1.heap.size, 2, none⟩ = some (.int .u32 (s.nm : Nat)) ∧ wx.cell? ⟨v1.heap.size, 3, none⟩ = some (.int .u32 (s.sn : Nat)) ∧ wx.cell? ⟨v1.heap.size, 4, none⟩ = some (.int .i64 (s.dc : Nat)) ∧ wx.cell? ⟨v1.heap.size, 5, none⟩ = some (.int .i64 s.v.lat) ∧ wx.cell? ⟨v1.heap.size, 6, none⟩ = some (.bool (vreq s.v)) ∧ wx.cell? ⟨v1.heap.size, 7, none⟩ = some (.bool (von s.v)) ∧ wx.cell? ⟨v1.heap.size, 8, none⟩ = some (.slice wa P0.o wcp) ∧ (convert 22 9 (.slice ax (rpF lm).1 cx)).run Tryz.prog wx = .ok (.string X) wx ∧ (convert 22 9 (.slice fa (rpF lm).1 fc)).run Tryz.prog wx = .ok (.string X) wx) := fun wx bx => by
            obtain ⟨_, _, rfa, eW⟩ := hRb wx (fun x hx => ((B4.below bx).kp x hx).2)
            have c1 := conv_any ax (rpF lm).1 cx (rpF lm).2 wx (rx.below bx)
            have c2 := conv_any fa (rpF lm).1 fc (rpF lm).2 wx rfa
            rw [hX] at c1 c2
            exact ⟨cell_of_row wx _ 0 _ _ _ eW, cell_of_row wx _ 1 _ _ _ eW, cell_of_row wx _ 2 _ _ _ eW, cell_of_row wx _ 3 _ _ _ eW, cell_of_row wx _ 4 _ _ _ eW, cell_of_row wx _ 5 _ _ _ eW, cell_of_row wx _ 6 _ _ _ eW, cell_of_row wx _ 7 _ _ _ eW, cell_of_row wx _ 8 _ _ _ eW, c1, c2⟩
          have HSx := hS _ bd
          have qS := seeS_any d m g 16 9 P0 U4 R.s x4.drew (B4.dv.below bd)
          rw [hSn2.1, hSn2.2.1, hSn2.2.2.1, hSn2.2.2.2.1, hSn2.2.2.2.2.1, hSn2.2.2.2.2.2] at qS
          have rwa4 := (hRb x4.drew (fun x hx => ((B4.below bd).kp x hx).2)).2.1
          have H7 : Hid (_) := And.intro B4 (And.intro hS (And.intro rwa4 (And.intro I2 (And.intro hL2 (And.intro ht2 (And.intro hod (And.intro hG (And.intro hI (And.intro hq2 hSn2)))))))))
          obtain ⟨bb, hb1, hb2⟩ : ∃ b : Bool, (R.e == 0) = b ∧ ((lm : Int) != 1) = b := by
            rw [HE.out]
            by_cases h1 : lm = 1
            · exact ⟨false, by rw [if_pos h1]; rfl, by rw [h1]; rfl⟩
            · exact ⟨true, by rw [if_neg h1]; rfl, by simp; omega⟩
          rw [hFr]
          obtain ⟨F, hF⟩ : ∃ x, rpF lm = x := ⟨_, rfl⟩
          rw [hF] at HSx ⊢
          have HFx : Hid (_) := hF
          clear h4 g4 D4 fx kx B3 hby B4 rx B2 I2 hL2 ht2 hod hRb hG hI hFr hq2 hSn2 y1 hX bd hS rwa4 hF H5 H6
          go_wp2_with fail
          refine wp_region_held_drew (S := fun w' => w'.cell? ⟨v1.heap.size, 0, none⟩ = some (.int .i64 (s.st : Nat)) ∧ w'.cell? ⟨v1.heap.size, 1, none⟩ = some (.int .u32 (s.ss : Nat)) ∧ w'.cell? ⟨v1.heap.size, 2, none⟩ = some (.int .u32 (s.nm : Nat)) ∧ w'.cell? ⟨v1.heap.size, 3, none⟩ = some (.int .u32 (s.sn : Nat)) ∧ w'.cell? ⟨v1.heap.size, 4, none⟩ = some (.int .i64 (s.dc : Nat)) ∧ w'.cell? ⟨v1.heap.size, 5, none⟩ = some (.int .i64 s.v.lat) ∧ w'.cell? ⟨v1.heap.size, 6, none⟩ = some (.bool (vreq s.v)) ∧ w'.cell? ⟨v1.heap.size, 7, none⟩ = some (.bool (von s.v)) ∧ w'.cell? ⟨v1.heap.size, 8, none⟩ = some (.slice wa P0.o wcp) ∧ (convert 22 9 (.slice ax F.1 cx)).run Tryz.prog w' = .ok (.string X) w' ∧ (convert 22 9 (.slice fa F.1 fc)).run Tryz.prog w' = .ok (.string X) w') (by kernel_rfl) HSx (fun _ => ?_)
          refine held_at (a' := { tmps := #[Value.int .i64 a0, Value.int .i64 a1, undef, undef, u4, Value.pointer (some ⟨m, 0, none⟩), Value.int .i64 0, Value.pointer (some ⟨r, 0, none⟩), Value.int .i64 0, Value.pointer (some ⟨d, 0, none⟩), Value.int .i64 0, Value.pointer (some ⟨e', 0, none⟩), Value.int .i64 0, Value.int .i64 (lm : Nat), Value.slice fa F.fst fc, Value.int .i64 (k : Nat), u16, u17, u18, u19, Value.pointer (some ⟨v1.heap.size, 0, none⟩), Value.slice bv f.fst bc, Value.bool true, Value.int .i64 (i : Nat), Value.slice ax F.fst cx, Value.int .i64 R.e, Value.bool true, Value.bool false, Value.tuple #[Value.pointer (some ⟨m, 0, none⟩), Value.int .i64 0], Value.tuple #[Value.pointer (some ⟨m, 0, none⟩), Value.int .i64 0], Value.pointer (some ⟨m, 0, none⟩), Value.int .i64 0, Value.tuple #[Value.pointer (some ⟨r, 0, none⟩), Value.int .i64 0], Value.tuple #[Value.pointer (some ⟨r, 0, none⟩), Value.int .i64 0], Value.pointer (some ⟨r, 0, none⟩), Value.int .i64 0, Value.tuple #[Value.pointer (some ⟨d, 0, none⟩), Value.int .i64 0], Value.agg #[Value.int .u32 (P0.c : Nat), Value.int .i64 (P0.o : Nat), Value.int .i64 (P0.i : Nat), Value.int .i64 (P0.t : Nat), Value.int .u32 (P0.n : Nat)], Value.pointer (some ⟨m, 0, none⟩), Value.tuple #[Value.pointer (some ⟨d, 0, none⟩), Value.int .i64 0], Value.pointer (some ⟨d, 0, none⟩), Value.int .i64 0, Value.tuple #[Value.pointer (some ⟨e', 0, none⟩), Value.int .i64 0], Value.agg #[Value.int .u32 (P0.c : Nat), Value.int .i64 (P0.o : Nat), Value.int .i64 (P0.i : Nat), Value.int .i64 (P0.t : Nat), Value.int .u32 (P0.n : Nat)], Value.pointer (some ⟨r, 0, none⟩), Value.tuple #[Value.pointer (some ⟨e', 0, none⟩), Value.int .i64 0], Value.pointer (some ⟨e', 0, none⟩), Value.int .i64 0, Value.int .i64 0, Value.bool false, Value.bool false, Value.pointer (some ⟨d, 0, none⟩), Value.bool false, Value.bool false, Value.int .i64 a0, Value.int .u64 (U0 : Nat), Value.int .u64 (fm : Nat), Value.int .i64 (fm : Nat), Value.int .i64 (lm : Nat), Value.int .i64 (k : Nat), Value.int .i64 (lm : Nat), Value.bool false, u62, u63, u64, u65, u66, u67, u68, u69, u70, u71, u72, u73, u74, u75, u76, u77, u78, u79, u80, u81, u82, u83, u84, Value.pointer (some ⟨d, 0, none⟩), Value.agg #[Value.int .i64 (s.st : Nat), Value.int .u32 (s.ss : Nat), Value.int .u32 (s.nm : Nat), Value.int .u32 (s.sn : Nat), Value.int .i64 (s.dc : Nat), Value.int .i64 s.v.lat, Value.bool (vreq s.v), Value.bool (von s.v), Value.slice wa P0.o wcp], Value.tuple #[Value.slice bv f.fst bc, Value.bool true], Value.pointer (some ⟨e', 0, none⟩), Value.int .i64 (lm : Nat), Value.agg #[Value.int .i64 (lm : Nat), Value.int .i64 0, Value.int .i64 0, Value.bool false, Value.slice none 0 0, Value.int .i64 0, Value.int .u32 0], Value.tuple #[Value.slice bv f.fst bc, Value.bool true], Value.slice bv f.fst bc, Value.bool true, Value.int .i64 (i : Nat), Value.int .i64 a1, Value.int .u64 (U1 : Nat), Value.int .u64 (tm : Nat), Value.int .i64 (tm : Nat), Value.bool true, u100, u101, Value.tuple #[Value.slice ax F.fst cx, Value.int .i64 R.e], Value.pointer (some ⟨d, 0, none⟩), Value.slice (some ⟨wr.heap.size, 0, none⟩) 0 0, Value.slice bv f.fst bc, Value.slice a3 f.fst c3, Value.tuple #[Value.slice ax F.fst cx, Value.int .i64 R.e], Value.slice ax F.fst cx, Value.int .i64 R.e, u110, u111, u112, u113, u114, u115, u116, u117, u118, u119, u120, u121, u122, u123, u124, u125, u126, u127, u128], defers := [] }) (l' := #[false, false, false, false, false, false, false, false, false, false, false, false, false, false, false, false, false, false, false]) (by kernel_rfl) (by kernel_rfl) ?_
          refine wpAnyH_take (i := 0) (v := Value.slice ax F.1 cx) rfl (by kernel_rfl) (by kernel_rfl) (by kernel_rfl) (fun _ _ _ h => h) (Or.inl ⟨by kernel_rfl, fun w hSw => by go_simp⟩) (by assumption) ?_
          refine wpAnyH_take (i := 1) (v := Value.string X) rfl (by kernel_rfl) (by kernel_rfl) (by kernel_rfl) (fun _ _ _ h => h) (Or.inl ⟨by kernel_rfl, fun w hSw => by go_simp⟩) (by assumption) ?_
          refine wpAnyH_take (i := 2) (v := Value.slice fa F.1 fc) rfl (by kernel_rfl) (by kernel_rfl) (by kernel_rfl) (fun _ _ _ h => h) (Or.inl ⟨by kernel_rfl, fun w hSw => by go_simp⟩) (by assumption) ?_
          refine wpAnyH_take (i := 3) (v := Value.string X) rfl (by kernel_rfl) (by kernel_rfl) (by kernel_rfl) (fun _ _ _ h => h) (Or.inl ⟨by kernel_rfl, fun w hSw => by go_simp⟩) (by assumption) ?_
          refine wpAnyH_take (i := 4) (v := Value.bool false) rfl (by kernel_rfl) (by kernel_rfl) (by kernel_rfl) (fun _ _ _ h => h) (Or.inl ⟨by kernel_rfl, fun w hSw => by go_simp⟩) (by assumption) ?_
          refine wpAnyH_take (i := 5) (v := Value.bool false) rfl (by kernel_rfl) (by kernel_rfl) (by kernel_rfl) (fun _ _ _ h => h) (Or.inl ⟨by kernel_rfl, fun w hSw => by go_simp⟩) (by assumption) ?_
          refine wpAnyH_take (i := 6) (v := Value.int .i64 R.e) rfl (by kernel_rfl) (by kernel_rfl) (by kernel_rfl) (fun _ _ _ h => h) (Or.inl ⟨by kernel_rfl, fun w hSw => by go_simp⟩) (by assumption) ?_
          refine wpAnyH_take (i := 7) (v := Value.bool bb) rfl (by kernel_rfl) (by kernel_rfl) (by kernel_rfl) (fun _ _ _ h => h) (Or.inl ⟨by kernel_rfl, fun w hSw => by go_simp⟩) (by assumption) ?_
          refine wpAnyH_take (i := 8) (v := Value.int .i64 (lm : Nat)) rfl (by kernel_rfl) (by kernel_rfl) (by kernel_rfl) (fun _ _ _ h => h) (Or.inl ⟨by kernel_rfl, fun w hSw => by go_simp⟩) (by assumption) ?_
          refine wpAnyH_take (i := 9) (v := Value.bool bb) rfl (by kernel_rfl) (by kernel_rfl) (by kernel_rfl) (fun _ _ _ h => h) (Or.inl ⟨by kernel_rfl, fun w hSw => by go_simp⟩) (by assumption) ?_
          refine wpAnyH_take (i := 10) (v := Value.bool false) rfl (by kernel_rfl) (by kernel_rfl) (by kernel_rfl) (fun _ _ _ h => h) (Or.inl ⟨by kernel_rfl, fun w hSw => by go_simp⟩) (by assumption) ?_
          refine wpAnyH_take (i := 11) (v := Value.bool false) rfl (by kernel_rfl) (by kernel_rfl) (by kernel_rfl) (fun _ _ _ h => h) (Or.inl ⟨by kernel_rfl, fun w hSw => by go_simp⟩) (by assumption) ?_
          refine wpAnyH_take (i := 12) (v := Value.bool false) rfl (by kernel_rfl) (by kernel_rfl) (by kernel_rfl) (fun _ _ _ h => h) (Or.inl ⟨by kernel_rfl, fun w hSw => by go_simp⟩) (by assumption) ?_
          refine wpAnyH_take (i := 13) (v := Value.agg #[Value.int .i64 (s.st : Nat), Value.int .u32 (s.ss : Nat), Value.int .u32 (s.nm : Nat), Value.int .u32 (s.sn : Nat), Value.int .i64 (s.dc : Nat), Value.int .i64 s.v.lat, Value.bool (vreq s.v), Value.bool (von s.v), Value.slice wa P0.o wcp]) rfl (by kernel_rfl) (by kernel_rfl) (by kernel_rfl) (fun _ _ _ h => h) (Or.inl ⟨by kernel_rfl, fun w hSw => by go_simp⟩) (by assumption) ?_
          refine wpAnyH_take (i := 14) (v := Value.pointer (some ⟨d, 0, none⟩)) rfl (by kernel_rfl) (by kernel_rfl) (by kernel_rfl) (fun _ _ _ h => h) (Or.inl ⟨by kernel_rfl, fun w hSw => by go_simp⟩) (by assumption) ?_
          refine held_at (a' := { tmps := #[Value.int .i64 a0, Value.int .i64 a1, undef, undef, u4, Value.pointer (some ⟨m, 0, none⟩), Value.int .i64 0, Value.pointer (some ⟨r, 0, none⟩), Value.int .i64 0, Value.pointer (some ⟨d, 0, none⟩), Value.int .i64 0, Value.pointer (some ⟨e', 0, none⟩), Value.int .i64 0, Value.int .i64 (lm : Nat), Value.slice fa F.fst fc, Value.int .i64 (k : Nat), u16, u17, u18, u19, Value.pointer (some ⟨v1.heap.size, 0, none⟩), Value.slice bv f.fst bc, Value.bool true, Value.int .i64 (i : Nat), Value.slice ax F.fst cx, Value.int .i64 R.e, Value.bool true, Value.bool false, Value.tuple #[Value.pointer (some ⟨m, 0, none⟩), Value.int .i64 0], Value.tuple #[Value.pointer (some ⟨m, 0, none⟩), Value.int .i64 0], Value.pointer (some ⟨m, 0, none⟩), Value.int .i64 0, Value.tuple #[Value.pointer (some ⟨r, 0, none⟩), Value.int .i64 0], Value.tuple #[Value.pointer (some ⟨r, 0, none⟩), Value.int .i64 0], Value.pointer (some ⟨r, 0, none⟩), Value.int .i64 0, Value.tuple #[Value.pointer (some ⟨d, 0, none⟩), Value.int .i64 0], Value.agg #[Value.int .u32 (P0.c : Nat), Value.int .i64 (P0.o : Nat), Value.int .i64 (P0.i : Nat), Value.int .i64 (P0.t : Nat), Value.int .u32 (P0.n : Nat)], Value.pointer (some ⟨m, 0, none⟩), Value.tuple #[Value.pointer (some ⟨d, 0, none⟩), Value.int .i64 0], Value.pointer (some ⟨d, 0, none⟩), Value.int .i64 0, Value.tuple #[Value.pointer (some ⟨e', 0, none⟩), Value.int .i64 0], Value.agg #[Value.int .u32 (P0.c : Nat), Value.int .i64 (P0.o : Nat), Value.int .i64 (P0.i : Nat), Value.int .i64 (P0.t : Nat), Value.int .u32 (P0.n : Nat)], Value.pointer (some ⟨r, 0, none⟩), Value.tuple #[Value.pointer (some ⟨e', 0, none⟩), Value.int .i64 0], Value.pointer (some ⟨e', 0, none⟩), Value.int .i64 0, Value.int .i64 0, Value.bool false, Value.bool false, Value.pointer (some ⟨d, 0, none⟩), Value.bool false, Value.bool false, Value.int .i64 a0, Value.int .u64 (U0 : Nat), Value.int .u64 (fm : Nat), Value.int .i64 (fm : Nat), Value.int .i64 (lm : Nat), Value.int .i64 (k : Nat), Value.int .i64 (lm : Nat), Value.bool false, u62, u63, u64, u65, u66, u67, u68, u69, u70, u71, u72, u73, u74, u75, u76, u77, u78, u79, u80, u81, u82, u83, u84, Value.pointer (some ⟨d, 0, none⟩), Value.agg #[Value.int .i64 (s.st : Nat), Value.int .u32 (s.ss : Nat), Value.int .u32 (s.nm : Nat), Value.int .u32 (s.sn : Nat), Value.int .i64 (s.dc : Nat), Value.int .i64 s.v.lat, Value.bool (vreq s.v), Value.bool (von s.v), Value.slice wa P0.o wcp], Value.tuple #[Value.slice bv f.fst bc, Value.bool true], Value.pointer (some ⟨e', 0, none⟩), Value.int .i64 (lm : Nat), Value.agg #[Value.int .i64 (lm : Nat), Value.int .i64 0, Value.int .i64 0, Value.bool false, Value.slice none 0 0, Value.int .i64 0, Value.int .u32 0], Value.tuple #[Value.slice bv f.fst bc, Value.bool true], Value.slice bv f.fst bc, Value.bool true, Value.int .i64 (i : Nat), Value.int .i64 a1, Value.int .u64 (U1 : Nat), Value.int .u64 (tm : Nat), Value.int .i64 (tm : Nat), Value.bool true, u100, u101, Value.tuple #[Value.slice ax F.fst cx, Value.int .i64 R.e], Value.pointer (some ⟨d, 0, none⟩), Value.slice (some ⟨wr.heap.size, 0, none⟩) 0 0, Value.slice bv f.fst bc, Value.slice a3 f.fst c3, Value.tuple #[Value.slice ax F.fst cx, Value.int .i64 R.e], Value.slice ax F.fst cx, Value.int .i64 R.e, Value.slice ax F.1 cx, Value.string X, Value.slice fa F.1 fc, Value.string X, Value.bool false, Value.bool false, Value.int .i64 R.e, Value.bool bb, Value.int .i64 (lm : Nat), Value.bool bb, Value.bool false, Value.bool false, Value.bool false, Value.agg #[Value.int .i64 (s.st : Nat), Value.int .u32 (s.ss : Nat), Value.int .u32 (s.nm : Nat), Value.int .u32 (s.sn : Nat), Value.int .i64 (s.dc : Nat), Value.int .i64 s.v.lat, Value.bool (vreq s.v), Value.bool (von s.v), Value.slice wa P0.o wcp], Value.pointer (some ⟨d, 0, none⟩), u125, u126, u127, u128], defers := [] }) (l' := #[true, true, true, true, true, true, true, true, true, true, true, true, true, true, true, false, false, false, false]) (by kernel_rfl) (by kernel_rfl) ?_
          refine held_call (i := 15) 26 #[Value.pointer (some ⟨d, 0, none⟩)] (by kernel_rfl) rfl (by kernel_rfl) (by go_simp) ?_
          refine (qS).mono ?_
          rintro e x5 ⟨na, nc, rfl, h5⟩
          have bx5 : Below x4.heap.size x4 x5 := (Below.drew (Below.refl _ _)).trans h5.out.2.2
          have HS5 := H7.out.2.1 x5 bx5
          rw [HFx.out] at HS5
          have qC := same13_any (s.st : Nat) (s.ss : Nat) (s.nm : Nat) (s.sn : Nat) (s.dc : Nat) s.v.lat (vreq s.v) (von s.v) wa na P0.o P0.o wcp nc (vout s.v) (vout s.v) x5 (H7.out.2.2.1.below h5.out.2.2) h5.out.2.1 rfl
          have H8 : Hid (_) := bx5
          clear qS h5 bx5
          refine ⟨_, rfl, HS5, ?_⟩
          refine held_at (a' := { tmps := #[Value.int .i64 a0, Value.int .i64 a1, undef, undef, u4, Value.pointer (some ⟨m, 0, none⟩), Value.int .i64 0, Value.pointer (some ⟨r, 0, none⟩), Value.int .i64 0, Value.pointer (some ⟨d, 0, none⟩), Value.int .i64 0, Value.pointer (some ⟨e', 0, none⟩), Value.int .i64 0, Value.int .i64 (lm : Nat), Value.slice fa F.fst fc, Value.int .i64 (k : Nat), u16, u17, u18, u19, Value.pointer (some ⟨v1.heap.size, 0, none⟩), Value.slice bv f.fst bc, Value.bool true, Value.int .i64 (i : Nat), Value.slice ax F.fst cx, Value.int .i64 R.e, Value.bool true, Value.bool false, Value.tuple #[Value.pointer (some ⟨m, 0, none⟩), Value.int .i64 0], Value.tuple #[Value.pointer (some ⟨m, 0, none⟩), Value.int .i64 0], Value.pointer (some ⟨m, 0, none⟩), Value.int .i64 0, Value.tuple #[Value.pointer (some ⟨r, 0, none⟩), Value.int .i64 0], Value.tuple #[Value.pointer (some ⟨r, 0, none⟩), Value.int .i64 0], Value.pointer (some ⟨r, 0, none⟩), Value.int .i64 0, Value.tuple #[Value.pointer (some ⟨d, 0, none⟩), Value.int .i64 0], Value.agg #[Value.int .u32 (P0.c : Nat), Value.int .i64 (P0.o : Nat), Value.int .i64 (P0.i : Nat), Value.int .i64 (P0.t : Nat), Value.int .u32 (P0.n : Nat)], Value.pointer (some ⟨m, 0, none⟩), Value.tuple #[Value.pointer (some ⟨d, 0, none⟩), Value.int .i64 0], Value.pointer (some ⟨d, 0, none⟩), Value.int .i64 0, Value.tuple #[Value.pointer (some ⟨e', 0, none⟩), Value.int .i64 0], Value.agg #[Value.int .u32 (P0.c : Nat), Value.int .i64 (P0.o : Nat), Value.int .i64 (P0.i : Nat), Value.int .i64 (P0.t : Nat), Value.int .u32 (P0.n : Nat)], Value.pointer (some ⟨r, 0, none⟩), Value.tuple #[Value.pointer (some ⟨e', 0, none⟩), Value.int .i64 0], Value.pointer (some ⟨e', 0, none⟩), Value.int .i64 0, Value.int .i64 0, Value.bool false, Value.bool false, Value.pointer (some ⟨d, 0, none⟩), Value.bool false, Value.bool false, Value.int .i64 a0, Value.int .u64 (U0 : Nat), Value.int .u64 (fm : Nat), Value.int .i64 (fm : Nat), Value.int .i64 (lm : Nat), Value.int .i64 (k : Nat), Value.int .i64 (lm : Nat), Value.bool false, u62, u63, u64, u65, u66, u67, u68, u69, u70, u71, u72, u73, u74, u75, u76, u77, u78, u79, u80, u81, u82, u83, u84, Value.pointer (some ⟨d, 0, none⟩), Value.agg #[Value.int .i64 (s.st : Nat), Value.int .u32 (s.ss : Nat), Value.int .u32 (s.nm : Nat), Value.int .u32 (s.sn : Nat), Value.int .i64 (s.dc : Nat), Value.int .i64 s.v.lat, Value.bool (vreq s.v), Value.bool (von s.v), Value.slice wa P0.o wcp], Value.tuple #[Value.slice bv f.fst bc, Value.bool true], Value.pointer (some ⟨e', 0, none⟩), Value.int .i64 (lm : Nat), Value.agg #[Value.int .i64 (lm : Nat), Value.int .i64 0, Value.int .i64 0, Value.bool false, Value.slice none 0 0, Value.int .i64 0, Value.int .u32 0], Value.tuple #[Value.slice bv f.fst bc, Value.bool true], Value.slice bv f.fst bc, Value.bool true, Value.int .i64 (i : Nat), Value.int .i64 a1, Value.int .u64 (U1 : Nat), Value.int .u64 (tm : Nat), Value.int .i64 (tm : Nat), Value.bool true, u100, u101, Value.tuple #[Value.slice ax F.fst cx, Value.int .i64 R.e], Value.pointer (some ⟨d, 0, none⟩), Value.slice (some ⟨wr.heap.size, 0, none⟩) 0 0, Value.slice bv f.fst bc, Value.slice a3 f.fst c3, Value.tuple #[Value.slice ax F.fst cx, Value.int .i64 R.e], Value.slice ax F.fst cx, Value.int .i64 R.e, Value.slice ax F.1 cx, Value.string X, Value.slice fa F.1 fc, Value.string X, Value.bool false, Value.bool false, Value.int .i64 R.e, Value.bool bb, Value.int .i64 (lm : Nat), Value.bool bb, Value.bool false, Value.bool false, Value.bool false, Value.agg #[Value.int .i64 (s.st : Nat), Value.int .u32 (s.ss : Nat), Value.int .u32 (s.nm : Nat), Value.int .u32 (s.sn : Nat), Value.int .i64 (s.dc : Nat), Value.int .i64 s.v.lat, Value.bool (vreq s.v), Value.bool (von s.v), Value.slice wa P0.o wcp], Value.pointer (some ⟨d, 0, none⟩), Value.agg #[Value.int .i64 (s.st : Nat), Value.int .u32 (s.ss : Nat), Value.int .u32 (s.nm : Nat), Value.int .u32 (s.sn : Nat), Value.int .i64 (s.dc : Nat), Value.int .i64 s.v.lat, Value.bool (vreq s.v), Value.bool (von s.v), Value.slice na P0.o nc], u126, u127, u128], defers := [] }) (l' := #[true, true, true, true, true, true, true, true, true, true, true, true, true, true, true, true, false, false, false]) (by kernel_rfl) (by kernel_rfl) ?_
          refine held_call (i := 16) 28 #[Value.agg #[Value.int .i64 (s.st : Nat), Value.int .u32 (s.ss : Nat), Value.int .u32 (s.nm : Nat), Value.int .u32 (s.sn : Nat), Value.int .i64 (s.dc : Nat), Value.int .i64 s.v.lat, Value.bool (vreq s.v), Value.bool (von s.v), Value.slice wa P0.o wcp], Value.agg #[Value.int .i64 (s.st : Nat), Value.int .u32 (s.ss : Nat), Value.int .u32 (s.nm : Nat), Value.int .u32 (s.sn : Nat), Value.int .i64 (s.dc : Nat), Value.int .i64 s.v.lat, Value.bool (vreq s.v), Value.bool (von s.v), Value.slice na P0.o nc]] (by kernel_rfl) rfl (by kernel_rfl) (by go_simp) ?_
          refine (qC).mono ?_
          rintro e x6 ⟨rfl, h6⟩
          have bx6 : Below x4.heap.size x4 x6 := H8.out.trans (h6.mono H8.out.size)
          have HS6 := H7.out.2.1 x6 bx6
          rw [HFx.out] at HS6
          have H9 : Hid (_) := bx6
          clear qC h6 bx6 HS5
          refine ⟨_, rfl, HS6, ?_⟩
          refine held_at (a' := { tmps := #[Value.int .i64 a0, Value.int .i64 a1, undef, undef, u4, Value.pointer (some ⟨m, 0, none⟩), Value.int .i64 0, Value.pointer (some ⟨r, 0, none⟩), Value.int .i64 0, Value.pointer (some ⟨d, 0, none⟩), Value.int .i64 0, Value.pointer (some ⟨e', 0, none⟩), Value.int .i64 0, Value.int .i64 (lm : Nat), Value.slice fa F.fst fc, Value.int .i64 (k : Nat), u16, u17, u18, u19, Value.pointer (some ⟨v1.heap.size, 0, none⟩), Value.slice bv f.fst bc, Value.bool true, Value.int .i64 (i : Nat), Value.slice ax F.fst cx, Value.int .i64 R.e, Value.bool true, Value.bool false, Value.tuple #[Value.pointer (some ⟨m, 0, none⟩), Value.int .i64 0], Value.tuple #[Value.pointer (some ⟨m, 0, none⟩), Value.int .i64 0], Value.pointer (some ⟨m, 0, none⟩), Value.int .i64 0, Value.tuple #[Value.pointer (some ⟨r, 0, none⟩), Value.int .i64 0], Value.tuple #[Value.pointer (some ⟨r, 0, none⟩), Value.int .i64 0], Value.pointer (some ⟨r, 0, none⟩), Value.int .i64 0, Value.tuple #[Value.pointer (some ⟨d, 0, none⟩), Value.int .i64 0], Value.agg #[Value.int .u32 (P0.c : Nat), Value.int .i64 (P0.o : Nat), Value.int .i64 (P0.i : Nat), Value.int .i64 (P0.t : Nat), Value.int .u32 (P0.n : Nat)], Value.pointer (some ⟨m, 0, none⟩), Value.tuple #[Value.pointer (some ⟨d, 0, none⟩), Value.int .i64 0], Value.pointer (some ⟨d, 0, none⟩), Value.int .i64 0, Value.tuple #[Value.pointer (some ⟨e', 0, none⟩), Value.int .i64 0], Value.agg #[Value.int .u32 (P0.c : Nat), Value.int .i64 (P0.o : Nat), Value.int .i64 (P0.i : Nat), Value.int .i64 (P0.t : Nat), Value.int .u32 (P0.n : Nat)], Value.pointer (some ⟨r, 0, none⟩), Value.tuple #[Value.pointer (some ⟨e', 0, none⟩), Value.int .i64 0], Value.pointer (some ⟨e', 0, none⟩), Value.int .i64 0, Value.int .i64 0, Value.bool false, Value.bool false, Value.pointer (some ⟨d, 0, none⟩), Value.bool false, Value.bool false, Value.int .i64 a0, Value.int .u64 (U0 : Nat), Value.int .u64 (fm : Nat), Value.int .i64 (fm : Nat), Value.int .i64 (lm : Nat), Value.int .i64 (k : Nat), Value.int .i64 (lm : Nat), Value.bool false, u62, u63, u64, u65, u66, u67, u68, u69, u70, u71, u72, u73, u74, u75, u76, u77, u78, u79, u80, u81, u82, u83, u84, Value.pointer (some ⟨d, 0, none⟩), Value.agg #[Value.int .i64 (s.st : Nat), Value.int .u32 (s.ss : Nat), Value.int .u32 (s.nm : Nat), Value.int .u32 (s.sn : Nat), Value.int .i64 (s.dc : Nat), Value.int .i64 s.v.lat, Value.bool (vreq s.v), Value.bool (von s.v), Value.slice wa P0.o wcp], Value.tuple #[Value.slice bv f.fst bc, Value.bool true], Value.pointer (some ⟨e', 0, none⟩), Value.int .i64 (lm : Nat), Value.agg #[Value.int .i64 (lm : Nat), Value.int .i64 0, Value.int .i64 0, Value.bool false, Value.slice none 0 0, Value.int .i64 0, Value.int .u32 0], Value.tuple #[Value.slice bv f.fst bc, Value.bool true], Value.slice bv f.fst bc, Value.bool true, Value.int .i64 (i : Nat), Value.int .i64 a1, Value.int .u64 (U1 : Nat), Value.int .u64 (tm : Nat), Value.int .i64 (tm : Nat), Value.bool true, u100, u101, Value.tuple #[Value.slice ax F.fst cx, Value.int .i64 R.e], Value.pointer (some ⟨d, 0, none⟩), Value.slice (some ⟨wr.heap.size, 0, none⟩) 0 0, Value.slice bv f.fst bc, Value.slice a3 f.fst c3, Value.tuple #[Value.slice ax F.fst cx, Value.int .i64 R.e], Value.slice ax F.fst cx, Value.int .i64 R.e, Value.slice ax F.1 cx, Value.string X, Value.slice fa F.1 fc, Value.string X, Value.bool false, Value.bool false, Value.int .i64 R.e, Value.bool bb, Value.int .i64 (lm : Nat), Value.bool bb, Value.bool false, Value.bool false, Value.bool false, Value.agg #[Value.int .i64 (s.st : Nat), Value.int .u32 (s.ss : Nat), Value.int .u32 (s.nm : Nat), Value.int .u32 (s.sn : Nat), Value.int .i64 (s.dc : Nat), Value.int .i64 s.v.lat, Value.bool (vreq s.v), Value.bool (von s.v), Value.slice wa P0.o wcp], Value.pointer (some ⟨d, 0, none⟩), Value.agg #[Value.int .i64 (s.st : Nat), Value.int .u32 (s.ss : Nat), Value.int .u32 (s.nm : Nat), Value.int .u32 (s.sn : Nat), Value.int .i64 (s.dc : Nat), Value.int .i64 s.v.lat, Value.bool (vreq s.v), Value.bool (von s.v), Value.slice na P0.o nc], Value.bool true, u127, u128], defers := [] }) (l' := #[true, true, true, true, true, true, true, true, true, true, true, true, true, true, true, true, true, false, false]) (by kernel_rfl) (by kernel_rfl) ?_
          refine wpAnyH_take (i := 17) (v := Value.bool false) rfl (by kernel_rfl) (by kernel_rfl) (by kernel_rfl) (fun _ _ _ h => h) (Or.inl ⟨by kernel_rfl, fun w hSw => by go_simp⟩) (by assumption) ?_
          refine wpAnyH_take (i := 18) (v := Value.bool false) rfl (by kernel_rfl) (by kernel_rfl) (by kernel_rfl) (fun _ _ _ h => h) (Or.inl ⟨by kernel_rfl, fun w hSw => by go_simp⟩) (by assumption) ?_
          refine held_at (a' := { tmps := #[Value.int .i64 a0, Value.int .i64 a1, undef, undef, u4, Value.pointer (some ⟨m, 0, none⟩), Value.int .i64 0, Value.pointer (some ⟨r, 0, none⟩), Value.int .i64 0, Value.pointer (some ⟨d, 0, none⟩), Value.int .i64 0, Value.pointer (some ⟨e', 0, none⟩), Value.int .i64 0, Value.int .i64 (lm : Nat), Value.slice fa F.fst fc, Value.int .i64 (k : Nat), u16, u17, u18, u19, Value.pointer (some ⟨v1.heap.size, 0, none⟩), Value.slice bv f.fst bc, Value.bool true, Value.int .i64 (i : Nat), Value.slice ax F.fst cx, Value.int .i64 R.e, Value.bool true, Value.bool false, Value.tuple #[Value.pointer (some ⟨m, 0, none⟩), Value.int .i64 0], Value.tuple #[Value.pointer (some ⟨m, 0, none⟩), Value.int .i64 0], Value.pointer (some ⟨m, 0, none⟩), Value.int .i64 0, Value.tuple #[Value.pointer (some ⟨r, 0, none⟩), Value.int .i64 0], Value.tuple #[Value.pointer (some ⟨r, 0, none⟩), Value.int .i64 0], Value.pointer (some ⟨r, 0, none⟩), Value.int .i64 0, Value.tuple #[Value.pointer (some ⟨d, 0, none⟩), Value.int .i64 0], Value.agg #[Value.int .u32 (P0.c : Nat), Value.int .i64 (P0.o : Nat), Value.int .i64 (P0.i : Nat), Value.int .i64 (P0.t : Nat), Value.int .u32 (P0.n : Nat)], Value.pointer (some ⟨m, 0, none⟩), Value.tuple #[Value.pointer (some ⟨d, 0, none⟩), Value.int .i64 0], Value.pointer (some ⟨d, 0, none⟩), Value.int .i64 0, Value.tuple #[Value.pointer (some ⟨e', 0, none⟩), Value.int .i64 0], Value.agg #[Value.int .u32 (P0.c : Nat), Value.int .i64 (P0.o : Nat), Value.int .i64 (P0.i : Nat), Value.int .i64 (P0.t : Nat), Value.int .u32 (P0.n : Nat)], Value.pointer (some ⟨r, 0, none⟩), Value.tuple #[Value.pointer (some ⟨e', 0, none⟩), Value.int .i64 0], Value.pointer (some ⟨e', 0, none⟩), Value.int .i64 0, Value.int .i64 0, Value.bool false, Value.bool false, Value.pointer (some ⟨d, 0, none⟩), Value.bool false, Value.bool false, Value.int .i64 a0, Value.int .u64 (U0 : Nat), Value.int .u64 (fm : Nat), Value.int .i64 (fm : Nat), Value.int .i64 (lm : Nat), Value.int .i64 (k : Nat), Value.int .i64 (lm : Nat), Value.bool false, u62, u63, u64, u65, u66, u67, u68, u69, u70, u71, u72, u73, u74, u75, u76, u77, u78, u79, u80, u81, u82, u83, u84, Value.pointer (some ⟨d, 0, none⟩), Value.agg #[Value.int .i64 (s.st : Nat), Value.int .u32 (s.ss : Nat), Value.int .u32 (s.nm : Nat), Value.int .u32 (s.sn : Nat), Value.int .i64 (s.dc : Nat), Value.int .i64 s.v.lat, Value.bool (vreq s.v), Value.bool (von s.v), Value.slice wa P0.o wcp], Value.tuple #[Value.slice bv f.fst bc, Value.bool true], Value.pointer (some ⟨e', 0, none⟩), Value.int .i64 (lm : Nat), Value.agg #[Value.int .i64 (lm : Nat), Value.int .i64 0, Value.int .i64 0, Value.bool false, Value.slice none 0 0, Value.int .i64 0, Value.int .u32 0], Value.tuple #[Value.slice bv f.fst bc, Value.bool true], Value.slice bv f.fst bc, Value.bool true, Value.int .i64 (i : Nat), Value.int .i64 a1, Value.int .u64 (U1 : Nat), Value.int .u64 (tm : Nat), Value.int .i64 (tm : Nat), Value.bool true, u100, u101, Value.tuple #[Value.slice ax F.fst cx, Value.int .i64 R.e], Value.pointer (some ⟨d, 0, none⟩), Value.slice (some ⟨wr.heap.size, 0, none⟩) 0 0, Value.slice bv f.fst bc, Value.slice a3 f.fst c3, Value.tuple #[Value.slice ax F.fst cx, Value.int .i64 R.e], Value.slice ax F.fst cx, Value.int .i64 R.e, Value.slice ax F.1 cx, Value.string X, Value.slice fa F.1 fc, Value.string X, Value.bool false, Value.bool false, Value.int .i64 R.e, Value.bool bb, Value.int .i64 (lm : Nat), Value.bool bb, Value.bool false, Value.bool false, Value.bool false, Value.agg #[Value.int .i64 (s.st : Nat), Value.int .u32 (s.ss : Nat), Value.int .u32 (s.nm : Nat), Value.int .u32 (s.sn : Nat), Value.int .i64 (s.dc : Nat), Value.int .i64 s.v.lat, Value.bool (vreq s.v), Value.bool (von s.v), Value.slice wa P0.o wcp], Value.pointer (some ⟨d, 0, none⟩), Value.agg #[Value.int .i64 (s.st : Nat), Value.int .u32 (s.ss : Nat), Value.int .u32 (s.nm : Nat), Value.int .u32 (s.sn : Nat), Value.int .i64 (s.dc : Nat), Value.int .i64 s.v.lat, Value.bool (vreq s.v), Value.bool (von s.v), Value.slice na P0.o nc], Value.bool true, Value.bool false, Value.bool false], defers := [] }) (l' := #[true, true, true, true, true, true, true, true, true, true, true, true, true, true, true, true, true, true, true]) (by kernel_rfl) (by kernel_rfl) ?_
          refine wpAnyH_done (by kernel_rfl) ?_ _
          have hF := HFx.out
          subst hF
          go_wp2_with fail
          go_roundw
          case rel =>
            obtain ⟨B4, _, _, I2, hL2, ht2, hod, hG, hI, ⟨od', hod', hq2⟩, hSn2⟩ := H7.out
            exact ⟨i + 1, R.s, by omega, by go_num, ⟨_, _, B4.below H9.out⟩, hI, by have := hG.1; omega, by have := hG.2; omega, ⟨od', by omega, hq2⟩, hSn2⟩
          case measure => have := HTM.out; simp [intOf] <;> omega
        · have hi3 : ¬ (i : Int) < (tm : Int) := by omega
          have hi3' : ¬ i < tm := hc
          obtain ⟨⟨U2, V2, B2⟩, _⟩ := hQ.out
          have HF : Hid (_) := H2.out.trans (B2.bel.mono H2.out.size)
          clear B2 hQ H4
          go_wp2_with fail
          go_ret
          exact ⟨rfl, HF.out⟩
theorem deviceRepeats_walk (a0 a1 : Int) (_w0 : (Lit.int .i64 a0).wf = true) (_w1 : (Lit.int .i64 a1).wf = true) (w : World) :
    Calls Tryz.prog 4 #[.int .i64 a0, .int .i64 a1] w fun e w' => e = .returned (.bool true) ∧ Below w.heap.size w w' := drepeats_go a0 a1 w
end Go.Proofs.YtndjepeolamedaaGreat
