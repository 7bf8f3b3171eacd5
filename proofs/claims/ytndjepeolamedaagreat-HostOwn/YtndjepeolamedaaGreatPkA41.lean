/- Part 42 of the texts on which the proofs of layer 13 rest: contracts of Go functions. -/
import Derived.Laws.AppendOwnNone
import Derived.Deep.CutBlock
import Derived.Test.YtndjepeolamedaaGreatPkA16
import Derived.Test.YtndjepeolamedaaGreatPkA23
import Derived.Test.YtndjepeolamedaaGreatPkA40
namespace Go.Proofs.YtndjepeolamedaaGreat
set_option maxRecDepth 100000
open Go.RowKit
theorem no_byte {bs : Nat → Nat} : ∀ i, i < 0 → bs i < 256 := fun i hi => absurd hi (Nat.not_lt_zero i)
theorem fm0_byte : ∀ i, i < fm0.1 → fm0.2 i < 256 := fun i hi => absurd hi (Nat.not_lt_zero i)
end Go.Proofs.YtndjepeolamedaaGreat
namespace Go.Proofs.YtndjepeolamedaaGreat
set_option maxRecDepth 100000
open Go.RowKit
set_option maxHeartbeats 6400000 in
theorem kstep_recv (w0 w : World) (L : Plh) (s : Sh) (K N fl : Int) (odd : Bool) (a : Option Addr) (len cap : Nat) (bs : Nat → Nat) (p : Int) (x : Nat) (h : Twh w0 w L s) (hr : Row8 w a len cap bs) (hl : ∀ y, a = some y → 0 < len → y.block < w.heap.size) (hk : 1 ≤ K ∧ K ≤ 7) (hx : x < 4294967296) (hlen : len ≤ 140737488351232) (hv : Ih L.P s) (hL : s.L.length < 800000) :
    Calls Tryz.prog 35 #[.pointer (some ⟨L.d, 0, none⟩), .pointer (some ⟨L.e, 0, none⟩), .agg #[.int .i64 K, .int .i64 N, .int .i64 fl, .bool odd, .slice a len cap, .int .i64 p, .int .u32 (x : Nat)]] w fun e w' => e = .returned (.bool true) ∧ Hid (∃ f, (∀ i, i < f.1 → f.2 i < 256) ∧ Fh L.P s K N fl odd len bs x f ∧ Twh w0 w' L (hrecvS L.P s f.1 f.2)) := by
  obtain ⟨i0, hi, hz0, hz1, hz2⟩ := info_parts info_u8
  have hbd := build0D
  obtain ⟨U, V, T⟩ := h
  have b0 : Below w.heap.size w (w.alloc (.cells #[.int .i64 K, .int .i64 N, .int .i64 fl, .bool odd, .slice a len cap, .int .i64 p, .int .u32 (x : Nat)] 80)) := (Below.refl _ _).alloc (Nat.le_refl _) _
  have T1 := T.below b0
  have hFr := hframe_op L.e L.P V s K N fl odd a len cap bs p x _ T1.rw (hr.below b0) (fun y hy h0 => Nat.lt_of_lt_of_le (hl y hy h0) b0.size) hv.ss hx hlen hk
  have H0 : Hid (_) := And.intro T1 (And.intro hv hL)
  clear T b0 T1 hr hl hk hx hlen hv hL
  go_enter Tryz.func35, Tryz.ntmps35
  go_wp2_with fail
  refine hFr.mono ?_
  rintro e w2 ⟨v, rfl, h2⟩
  generalize w.alloc (.cells #[.int .i64 K, .int .i64 N, .int .i64 fl, .bool odd, .slice a len cap, .int .i64 p, .int .u32 (x : Nat)] 80) = w1 at *
  obtain ⟨b2, f, F2, y2, l2, fo2⟩ := h2.out
  obtain ⟨av, cv, rfl, rv⟩ := F2.row y2
  have T2 := H0.out.1.below b2
  have hfar : ∀ y, av = some y → w1.heap.size ≤ y.block := fun y hy => (own_far F2 y hy).1
  have hbelA : Below w2.heap.size w2 (w2.alloc (.cells #[] 5)) := (Below.refl _ _).alloc (Nat.le_refl _) _
  have R0 := rv.below hbelA
  have O0 := own0D w2.heap.size f.2 w2 (Nat.le_refl _)
  have hszA := hbelA.size
  have H2 : Hid (_) := And.intro T2 (And.intro rv (And.intro y2 (And.intro fo2 hfar)))
  clear hFr h2 b2 F2 T2 rv y2 fo2 hfar
  go_wp2_with (at_builtin; refine wpList_append_row8 rfl (.tmp 21) (.tmp 22) 22 rfl w2.heap.size 5 i0 (.int .u8 0) Tryz.underlying22 hi hz0 hz1 hz2 rfl _ 0 _ rfl O0 av f.1 cv f.2 rfl R0 (by unfold maxLen; omega) (by omega) hszA ?_)
  intro v3 w3 hown3 hgrow3
  have b3 : Below w2.heap.size w2 w3 := hbelA.grown hgrow3 hszA (fun k hk => (O0.lt k hk).1)
  rw [show CB f.2 0 = [] from rfl, List.nil_append] at hown3
  have own3 : w3.ownsRow w2.heap.size 5 1 v3 f.1 (CB f.2 f.1) := by simpa using hown3
  obtain ⟨T2, rv, y2, fo2, hfar⟩ := H2.out
  obtain ⟨T1, hv, hL⟩ := H0.out
  obtain ⟨a3, c3, rfl, r3⟩ := own_row8 own3 y2
  have T3 := T2.below b3
  have rv3 := rv.below b3
  have hRc := hreceive_any L.d L.P U s a3 f.1 c3 f.2 w3 T3.dv r3 hL
  have hRF : ∀ w4 U4, Gr U w3 U4 w4 → HV w4 L.d L.P U4 (hrecvS L.P s f.1 f.2) → Bth w0 w4 L (hrecvS L.P s f.1 f.2) s [] U4 V ∧ Calls Tryz.prog 46 #[.pointer (some ⟨L.e, 0, none⟩), .slice av f.1 cv] w4 fun e w' => e = .returned (.int .i64 (hrecvE L.P s f.1 f.2)) ∧ Hid (∃ U', Gr V w4 U' w' ∧ RVh w' L.e L.P U' (hrecvS L.P s f.1 f.2)) := by
    intro w4 U4 g4 x4
    have T4 := T3.dev g4 x4
    refine ⟨T4, hrreceive_any L.e L.P V s av f.1 cv f.2 w4 T4.rw (rv3.off g4.off (fun y hy hm => ?_)) hL⟩
    have := hfar y hy
    have := T1.dv.ult _ hm
    omega
  have HR : Hid (_) := hRF
  clear hRF
  have H3 : Hid (_) := And.intro T3 (And.intro y2 fo2)
  generalize hRR : hrecvS L.P s f.1 f.2 = R at *
  generalize hEE : hrecvE L.P s f.1 f.2 = E at *
  have HRR : Hid (_) := hRR
  clear hRR hEE
  clear hown3 hgrow3 b3 own3 T2 rv y2 fo2 hfar T1 hv hL r3 T3 rv3 O0 R0 hbelA hszA H0 H2 l2 hbd
  go_wp2_with fail
  refine hRc.mono ?_
  rintro e w4 ⟨rfl, h4⟩
  obtain ⟨U4, g4, x4⟩ := h4.out
  obtain ⟨T4, hR2⟩ := HR.out w4 U4 g4 x4
  have H4 : Hid (_) := And.intro T4 H3.out
  clear hRc h4 g4 x4 HR T4 H3
  go_wp2_with fail
  refine hR2.mono ?_
  rintro e w5 ⟨rfl, h5⟩
  obtain ⟨T4, T3, y2, fo2⟩ := H4.out
  obtain ⟨V5, g5, x5⟩ := h5.out
  have T5 := T4.ref g5 x5
  have H5 : Hid (_) := And.intro y2 (And.intro fo2 T5)
  clear hR2 h5 T4 T3 y2 fo2 g5 x5 T5 H4
  go_wp2_with fail
  go_ret
  exact ⟨by simp, f, H5.out.1, H5.out.2.1, U4, V5, by rw [HRR.out]; exact H5.out.2.2⟩
end Go.Proofs.YtndjepeolamedaaGreat
namespace Go.Proofs.YtndjepeolamedaaGreat
set_option maxRecDepth 100000
open Go.RowKit
theorem hnext_byte (P : Pm) (s : Sh) (hap : ∀ i, i < P.o → s.ap i < 256) : ∀ i, i < (hnext P s).2.1 → (hnext P s).2.2 i < 256 := by
  unfold hnext
  split
  · exact encF_byte _ _ _ _ _ _ _ (dsg_byte P)
  · split
    · exact encF_byte _ _ _ _ _ _ _ (dsg_byte P)
    · split
      · exact encF_byte _ _ _ _ _ _ _ no_byte
      · split
        · exact encF_byte _ _ _ _ _ _ _ no_byte
        · exact encF_byte _ _ _ _ _ _ _ hap
theorem hmiss_ap (s : Sh) : (hmiss s).ap = s.ap := by
  unfold hmiss
  split
  · rfl
  · split
    · rfl
    · show (hgive _).ap = _
      unfold hgive
      split
      · exact (hlatch_flds _ _).2.2.2.2.2.2.1
      · rfl
theorem hsend_byte (P : Pm) (s : Sh) (hap : ∀ i, i < P.o → s.ap i < 256) : ∀ i, i < (hsendF P s).1 → (hsendF P s).2 i < 256 := by
  unfold hsendF
  split
  · exact fm0_byte
  · exact hnext_byte P _ (by rw [hmiss_ap]; exact hap)
theorem Ih.sent {P : Pm} {s : Sh} (hP : Pok P) (h : Ih P s) : s.st = 4 → s.sn + 1 < 4294967296 := fun e => by
  have := (h.run e).1
  have := hP.n
  omega
set_option maxHeartbeats 6400000 in
theorem kstep12_any (w0 w : World) (L : Plh) (s : Sh) (N fl : Int) (odd : Bool) (a : Option Addr) (len cap : Nat) (bs : Nat → Nat) (p : Int) (x : Nat) (h : Twh w0 w L s) (hr : Row8 w a len cap bs) (hl : ∀ y, a = some y → 0 < len → y.block < w0.heap.size) (hv : Ih L.P s) (hL : s.L.length < 700000) :
    Calls Tryz.prog 35 #[.pointer (some ⟨L.d, 0, none⟩), .pointer (some ⟨L.e, 0, none⟩), .agg #[.int .i64 12, .int .i64 N, .int .i64 fl, .bool odd, .slice a len cap, .int .i64 p, .int .u32 (x : Nat)]] w fun e w' => e = .returned (.bool true) ∧ Hid (Twh w0 w' L (hsendS L.P s)) := by
  have hss := hv.ss
  have P0 := h.ph #[.int .i64 12, .int .i64 N, .int .i64 fl, .bool odd, .slice a len cap, .int .i64 p, .int .u32 (x : Nat)] hr hl
  obtain ⟨V, rv, _⟩ := P0.ref
  have hFr := hframeN_any L.e L.P V s 12 N fl odd a len cap bs p x (w.alloc (.cells #[.int .i64 12, .int .i64 N, .int .i64 fl, .bool odd, .slice a len cap, .int .i64 p, .int .u32 (x : Nat)] 80)) rv P0.row (fun y hy h0 => by
    obtain ⟨U', V', T⟩ := P0.bt
    have := hl y hy h0; have := T.bel.size; omega) hss (by omega)
  have HP : Hid (_) := P0
  have HB : Hid (_) := And.intro hv hL
  clear h hr hl hss P0 rv hv hL
  go_enter Tryz.func35, Tryz.ntmps35
  go_wp2_with (go_at_call 37; refine hFr.mono ?_; rintro e w2 ⟨rfl, b2⟩; have P2 := HP.out.below b2; have c0 : w2.cell? ⟨w.heap.size, 0, none⟩ = some (.int .i64 12) := cell_of_row w2 _ 0 _ _ _ P2.bx; have H2 : Hid (_) := P2; clear P2 b2 hFr HP)
  obtain ⟨U1, V1, T1⟩ := H2.out.bt
  obtain ⟨B1, y1⟩ := id T1.dv
  have hP := y1.pok
  have hby := hsend_byte L.P s y1.apb
  have hSd := hsend_any L.d L.P U1 s w2 T1.dv HB.out.1.ms ⟨HB.out.1.st1, HB.out.1.st5⟩ (HB.out.1.sent hP) HB.out.2
  have H3 : Hid (_) := And.intro T1 hby
  clear y1 hP hby T1 H2 c0
  refine hSd.mono ?_
  rintro e w3 ⟨vx, rfl, h3⟩
  obtain ⟨U3, g3, x3, fx, kx⟩ := h3.out
  obtain ⟨T1, hby⟩ := H3.out
  have T3 := T1.dev g3 x3
  have hRd := hrsend_any L.e L.P V1 s w3 T3.rw HB.out.1 (by have := HB.out.2; omega)
  obtain ⟨ax, cx, rfl, _⟩ := fx.row hby
  have H4 : Hid (_) := And.intro T3 (And.intro fx (And.intro T1 hby))
  generalize hRR : hsendS L.P s = R at *
  generalize hFF : hsendF L.P s = F at *
  generalize hEE : hsendE s = E at *
  have HRR : Hid (_) := hRR
  clear hSd h3 g3 x3 fx kx T1 T3 hby hRR hFF hEE H3 HB
  go_wp2_with fail
  refine hRd.mono ?_
  rintro e w5 ⟨vy, rfl, h5⟩
  obtain ⟨T3, fx, T1, hby⟩ := H4.out
  obtain ⟨V5, g5, x5, fy, ky⟩ := h5.out
  have T5 := T3.ref g5 x5
  have fx5 : Fr w5 w2.heap.size (.slice ax F.1 cx) F := own_offk fx g5.off (fun k hk hm => by
    have := fx.ge k hk
    have := T1.rw.ult k hm
    omega)
  obtain ⟨ax', cx', ex, rx⟩ := fx5.row hby
  simp only [Value.slice.injEq, true_and] at ex
  obtain ⟨rfl, rfl⟩ := ex
  obtain ⟨ay, cy, rfl, ry⟩ := fy.row hby
  have q1 := conv_any ax F.1 cx F.2 w5 rx
  have q2 := conv_any ay F.1 cy F.2 w5 ry
  obtain ⟨X, hX⟩ : ∃ X, BA F.2 F.1 = X := ⟨_, rfl⟩
  rw [hX] at q1 q2
  have H5 : Hid (_) := T5
  clear hRd h5 T3 fx T1 hby g5 x5 fy ky T5 fx5 rx ry hX H4
  go_wp2_with fail
  go_ret
  exact ⟨by simp, U3, V5, by rw [HRR.out]; exact H5.out.less (by simp)⟩
end Go.Proofs.YtndjepeolamedaaGreat
namespace Go.Proofs.YtndjepeolamedaaGreat
set_option maxRecDepth 100000
open Go.RowKit
theorem htake_len (s : Sh) (k ss num fl : Nat) (bs : Nat → Nat) : (htake s k ss num fl bs).L.length ≤ s.L.length + 1 := by
  unfold htake
  split
  · show s.L.length ≤ _; omega
  · split
    · show s.L.length ≤ _; omega
    · split
      · show s.L.length ≤ _; omega
      · split
        · show s.L.length ≤ _; omega
        · split
          · exact hexh_len (hon { s with nm := num })
          · show s.L.length ≤ _; omega
theorem hrecv_len (P : Pm) (s : Sh) (len : Nat) (bs : Nat → Nat) : (hrecvS P s len bs).L.length ≤ s.L.length + 1 := by
  unfold hrecvS
  split
  · show (s.L ++ [_]).length ≤ _; simp
  · exact htake_len _ _ _ _ _ _
theorem htick_len (P : Pm) (s : Sh) (k : Int) : (htickS P s k).L.length ≤ s.L.length + 1 := by
  unfold htickS
  split
  · omega
  · split
    · exact hlatch_len { s with dc := tk P.t s.dc k.toNat } 100
    · show s.L.length ≤ _; omega
theorem hwrite_len (P : Pm) (s : Sh) (len : Nat) (bs : Nat → Nat) (o : Bool) : (hwriteS P s len bs o).L.length ≤ s.L.length := by
  unfold hwriteS
  split
  · show s.L.length ≤ _; omega
  · omega
def Osh (P : Pm) (s : Sh) (K N fl : Int) (odd : Bool) (len : Nat) (bs : Nat → Nat) (x : Nat) (s' : Sh) : Prop :=
  (1 ≤ K ∧ K ≤ 7 → ∃ f : Fm, (∀ i, i < f.1 → f.2 i < 256) ∧ Fh P s K N fl odd len bs x f ∧ s' = hrecvS P s f.1 f.2) ∧ (K = 8 → s' = htickS P s N) ∧ (K = 9 → s' = hwriteS P s len bs odd) ∧ (K = 10 → s' = hackS s) ∧
  (K = 11 → s' = hlife s) ∧ (K = 12 → s' = hsendS P s) ∧ (¬ (1 ≤ K ∧ K ≤ 12) → s' = s)
theorem Twh.pok {w0 w : World} {L : Plh} {s : Sh} (h : Twh w0 w L s) : Pok L.P ∧ (∀ i, i < L.P.o → s.ap i < 256) ∧ Below w0.heap.size w0 w := by
  obtain ⟨U, V, T⟩ := h
  obtain ⟨B, y⟩ := id T.dv
  exact ⟨y.pok, y.apb, T.bel⟩
theorem kstep_op (w0 w : World) (L : Plh) (s : Sh) (K N fl : Int) (odd : Bool) (a : Option Addr) (len cap : Nat) (bs : Nat → Nat) (p : Int) (x : Nat) (h : Twh w0 w L s) (hr : Row8 w a len cap bs) (hl : ∀ y, a = some y → 0 < len → y.block < w0.heap.size) (hx : x < 4294967296) (hlen : len ≤ 140737488351232) (hN : N ≤ 9223372036854775807) (hv : Ih L.P s) (hL : s.L.length < 700000) :
    Calls Tryz.prog 35 #[.pointer (some ⟨L.d, 0, none⟩), .pointer (some ⟨L.e, 0, none⟩), .agg #[.int .i64 K, .int .i64 N, .int .i64 fl, .bool odd, .slice a len cap, .int .i64 p, .int .u32 (x : Nat)]] w fun e w' => e = .returned (.bool true) ∧ Hid (∃ s', Twh w0 w' L s' ∧ Ih L.P s' ∧ s'.L.length ≤ s.L.length + 2 ∧ Osh L.P s K N fl odd len bs x s') := by
  obtain ⟨hP, _, hbel⟩ := h.pok
  by_cases h7 : 1 ≤ K ∧ K ≤ 7
  · refine (kstep_recv w0 w L s K N fl odd a len cap bs p x h hr (fun y hy h0 => Nat.lt_of_lt_of_le (hl y hy h0) hbel.size) h7 hx hlen hv (by omega)).mono ?_
    rintro e w' ⟨rfl, h5⟩
    obtain ⟨f, y, fo, T⟩ := h5.out
    exact ⟨rfl, _, T, hv.recv hP f.1 f.2 y, by have := hrecv_len L.P s f.1 f.2; omega, fun _ => ⟨f, y, fo, rfl⟩, fun e => by omega, fun e => by omega, fun e => by omega, fun e => by omega, fun e => by omega, fun e => by omega⟩
  · by_cases h12 : 1 ≤ K ∧ K ≤ 12
    · have : K = 8 ∨ K = 9 ∨ K = 10 ∨ K = 11 ∨ K = 12 := by omega
      rcases this with rfl | rfl | rfl | rfl | rfl
      · refine (kstep8_any w0 w L s N fl odd a len cap bs p x h hr hl hv.ss hN (by omega)).mono ?_
        rintro e w' ⟨rfl, h5⟩
        exact ⟨rfl, _, h5.out, hv.tick N, by have := htick_len L.P s N; omega, fun e => by omega, fun _ => rfl, fun e => by omega, fun e => by omega, fun e => by omega, fun e => by omega, fun e => by omega⟩
      · refine (kstep9_any w0 w L s N fl odd a len cap bs p x h hr hl hv.ss hlen).mono ?_
        rintro e w' ⟨rfl, h5⟩
        exact ⟨rfl, _, h5.out, hv.write len bs odd, by have := hwrite_len L.P s len bs odd; omega, fun e => by omega, fun e => by omega, fun _ => rfl, fun e => by omega, fun e => by omega, fun e => by omega, fun e => by omega⟩
      · refine (kstep10_any w0 w L s N fl odd a len cap bs p x h hr hl hv.ss).mono ?_
        rintro e w' ⟨rfl, h5⟩
        exact ⟨rfl, _, h5.out, hv.ack, by show s.L.length ≤ _; omega, fun e => by omega, fun e => by omega, fun e => by omega, fun _ => rfl, fun e => by omega, fun e => by omega, fun e => by omega⟩
      · refine (kstep11_any w0 w L s N fl odd a len cap bs p x h hr hl hv.ss).mono ?_
        rintro e w' ⟨rfl, h5⟩
        exact ⟨rfl, _, h5.out, Ih.life L.P s, by show s.L.length ≤ _; omega, fun e => by omega, fun e => by omega, fun e => by omega, fun e => by omega, fun _ => rfl, fun e => by omega, fun e => by omega⟩
      · refine (kstep12_any w0 w L s N fl odd a len cap bs p x h hr hl hv hL).mono ?_
        rintro e w' ⟨rfl, h5⟩
        exact ⟨rfl, _, h5.out, hv.send hP, hsend_len L.P s, fun e => by omega, fun e => by omega, fun e => by omega, fun e => by omega, fun e => by omega, fun _ => rfl, fun e => by omega⟩
    · refine (kstepN_any w0 w L s K N fl odd a len cap bs p x h hr hl hv.ss h12).mono ?_
      rintro e w' ⟨rfl, h5⟩
      exact ⟨rfl, _, h5.out, hv, by omega, fun e => absurd e h7, fun e => by omega, fun e => by omega, fun e => by omega, fun e => by omega, fun e => by omega, fun _ => rfl⟩
theorem twh_made {w0 w w1 w2 : World} {L : Plh} {s : Sh} {U V : List Nat} (bel : Below w0.heap.size w0 w) (b1 : Below w.heap.size w w1) (D : HV w1 L.d L.P U s) (hU : ∀ k, k ∈ U → w.heap.size ≤ k)
    (b2 : Below w1.heap.size w1 w2) (R : RVh w2 L.e L.P V s) (hV : ∀ k, k ∈ V → w1.heap.size ≤ k) (hK : L.K = []) : Twh w0 w2 L s := by
  have sb := bel.size
  have s1 := b1.size
  refine ⟨U, V, (bel.trans (b1.mono bel.size)).trans (b2.mono (by omega)), D.below b2, R, fun k hk => ⟨?_, fun hm => ?_⟩, fun k hk => ?_, fun k hk => by simp at hk, fun x hx => by rw [hK] at hx; simp at hx⟩
  · have := hU k hk; omega
  · have h2 := hV k hm
    have h3 := D.ult k hk
    omega
  · have := hV k hk; omega
end Go.Proofs.YtndjepeolamedaaGreat
namespace Go.Proofs.YtndjepeolamedaaGreat
set_option maxRecDepth 100000
open Go.RowKit Go.Maps
theorem rec_eq (a0 a1 a2 a3 b0 b1 b2 b3 : Int) (w : World) : (Op.equalIn 10000 173 (.agg #[.int .i64 a0, .int .i64 a1, .int .u32 a2, .int .u32 a3]) (.agg #[.int .i64 b0, .int .i64 b1, .int .u32 b2, .int .u32 b3])).run Tryz.prog w = .ok (decide ((a0, a1, a2, a3) = (b0, b1, b2, b3))) w := by
  have hS : Tryz.prog.underlying 173 = some (.struct (Tryz.prog.fieldsOf 173)) := by kernel_rfl
  have hp : Tryz.prog.stoodInHeld 173 = false := by kernel_rfl
  rw [show (10000 : Nat) = 9999 + 1 from rfl, run_equalIn_agg w 9999 173 _ _ hS hp]
  simp only [Program.fieldsOf, Tryz.underlying173]
  go_simp
  by_cases h1 : a0 = b0 <;> by_cases h2 : a1 = b1 <;> by_cases h3 : a2 = b2 <;> by_cases h4 : a3 = b3 <;> simp [h1, h2, h3, h4]
theorem own_cells1 {w : World} {B : Nat} {e : TypeId} {v : Value} {l : List Int} (h : w.ownsRow B e 1 v l.length (l.map encZ)) : ∃ a cap, v = .slice a l.length cap ∧ l.length ≤ maxLen ∧ ∀ i (hi : i < l.length), ∃ g, a = some ⟨g, 0, none⟩ ∧ B ≤ g ∧ w.cell? ⟨g, i, none⟩ = some (.int .i64 l[i]) := by
  rcases h.2 with ⟨rfl, hn⟩ | ⟨g, cap, cur, rfl, hg, hgg, h1, h2, h3, h4⟩
  · exact ⟨none, 0, by rw [hn], by omega, fun i hi => by omega⟩
  · refine ⟨_, cap, rfl, by omega, fun i hi => ⟨g, rfl, hg, cell_at hgg ?_⟩⟩
    have : (cur.toList.take (l.length * 1))[i]? = (l.map encZ)[i]? := by rw [h4]
    rw [List.getElem?_take_of_lt (by omega)] at this
    simpa [hi] using this
theorem own_cells4 {w : World} {B : Nat} {e : TypeId} {v : Value} {l : List R4} (h : w.ownsRow B e 4 v l.length (rvs l)) : ∃ a cap, v = .slice a l.length cap ∧ l.length ≤ maxLen ∧ ∀ i (hi : i < l.length), ∃ g, a = some ⟨g, 0, none⟩ ∧ B ≤ g ∧ g < w.heap.size ∧
    w.cell? ⟨g, i * 4, none⟩ = some (.int .i64 l[i].1) ∧ w.cell? ⟨g, i * 4 + 1, none⟩ = some (.int .i64 l[i].2.1) ∧ w.cell? ⟨g, i * 4 + 2, none⟩ = some (.int .u32 l[i].2.2.1) ∧ w.cell? ⟨g, i * 4 + 3, none⟩ = some (.int .u32 l[i].2.2.2) := by
  rcases h.2 with ⟨rfl, hn⟩ | ⟨g, cap, cur, rfl, hg, hgg, h1, h2, h3, h4⟩
  · exact ⟨none, 0, by rw [hn], by omega, fun i hi => by omega⟩
  · refine ⟨_, cap, rfl, by omega, fun i hi => ?_⟩
    have key : ∀ f, f < 4 → cur[i * 4 + f]? = (rv l[i])[f]? := by
      intro f hf
      have : (cur.toList.take (l.length * 4))[i * 4 + f]? = (rvs l)[i * 4 + f]? := by rw [h4]
      rw [List.getElem?_take_of_lt (by omega), rvs_at l i f hf hi] at this
      simpa using this
    exact ⟨g, rfl, hg, (Array.getElem?_eq_some_iff.1 hgg).1, cell_at hgg (key 0 (by omega)), cell_at hgg (key 1 (by omega)), cell_at hgg (key 2 (by omega)), cell_at hgg (key 3 (by omega))⟩
theorem cell_lt {w : World} {a : Addr} {v : Value} (h : w.cell? a = some v) : a.block < w.heap.size := by
  unfold World.cell? at h
  cases hb : w.heap[a.block]? with
  | none => rw [hb] at h; cases h
  | some o => exact (Array.getElem?_eq_some_iff.1 hb).1
set_option maxHeartbeats 1600000 in
set_option maxRecDepth 100000 in
theorem dsame_any (v1 v2 : Value) (B1 B2 : Nat) (l : List R4) (w : World) (h1 : w.ownsRow B1 173 4 v1 l.length (rvs l)) (h2 : w.ownsRow B2 173 4 v2 l.length (rvs l)) (hl : l.length ≤ 1000000) :
    Calls Tryz.prog 81 #[v1, v2] w fun e w' => e = .returned (.bool true) ∧ ∃ m, w' = w.drewN m := by
  obtain ⟨a1, c1, rfl, _, h1⟩ := own_cells4 h1
  obtain ⟨a2, c2, rfl, _, h2⟩ := own_cells4 h2
  obtain ⟨n, hn⟩ : ∃ n, n = l.length := ⟨_, rfl⟩
  have HN : Hid (n = l.length) := hn
  have H1 : Hid (_) := h1
  have H2 : Hid (_) := h2
  rw [← hn] at hl ⊢
  clear hn h1 h2
  have hR := rec_eq
  go_enter Tryz.func81, Tryz.ntmps81
  go_wp2_with fail
  go_loopw [5] (fun c wr => ∃ i m, i ≤ n ∧ c = .int .i64 ((i : Nat) : Int) ∧ wr = w.drewN m) (fun c _ => n - (intOf c).toNat)
  case atStart => exact ⟨0, 0, by omega, rfl, rfl⟩
  case round =>
    obtain ⟨i, m, hi, rfl, rfl⟩ := hrel
    by_cases hlt : i < n
    · have hil : i < l.length := by rw [← HN.out]; exact hlt
      obtain ⟨g1, rfl, _, _, p0, p1, p2, p3⟩ := H1.out i hil
      obtain ⟨g2, rfl, _, _, q0, q1, q2, q3⟩ := H2.out i hil
      generalize l[i] = x at *
      obtain ⟨x0, x1, x2, x3⟩ := x
      have p0 : (w.drewN m).cell? ⟨g1, i * 4, none⟩ = some (.int .i64 x0) := p0
      have p1 : (w.drewN m).cell? ⟨g1, i * 4 + 1, none⟩ = some (.int .i64 x1) := p1
      have p2 : (w.drewN m).cell? ⟨g1, i * 4 + 2, none⟩ = some (.int .u32 x2) := p2
      have p3 : (w.drewN m).cell? ⟨g1, i * 4 + 3, none⟩ = some (.int .u32 x3) := p3
      have q0 : (w.drewN m).cell? ⟨g2, i * 4, none⟩ = some (.int .i64 x0) := q0
      have q1 : (w.drewN m).cell? ⟨g2, i * 4 + 1, none⟩ = some (.int .i64 x1) := q1
      have q2 : (w.drewN m).cell? ⟨g2, i * 4 + 2, none⟩ = some (.int .u32 x2) := q2
      have q3 : (w.drewN m).cell? ⟨g2, i * 4 + 3, none⟩ = some (.int .u32 x3) := q3
      clear hil
      generalize hwm : w.drewN m = wm at *
      have HW : Hid (w.drewN m = wm) := hwm
      clear hwm
      go_wp2_with fail
      go_quiet (fail)
      go_wp2_with fail
      go_roundw
      case rel => exact ⟨i + 1, m + nq, by omega, by go_num, by rw [← HW.out, World.drewN_drewN]⟩
      case measure => simp [intOf] <;> omega
    · go_wp2_with fail
      go_ret
      exact ⟨rfl, m, rfl⟩
theorem lst_cells {w : World} {g s : Nat} {a : Option Addr} {L : List R4} (h : ∀ i (hi : i < L.length), ∃ g, a = some ⟨g, 0, none⟩ ∧ 0 ≤ g ∧ g < w.heap.size ∧
    w.cell? ⟨g, i * 4, none⟩ = some (.int .i64 L[i].1) ∧ w.cell? ⟨g, i * 4 + 1, none⟩ = some (.int .i64 L[i].2.1) ∧ w.cell? ⟨g, i * 4 + 2, none⟩ = some (.int .u32 L[i].2.2.1) ∧ w.cell? ⟨g, i * 4 + 3, none⟩ = some (.int .u32 L[i].2.2.2)) (ha : a = some ⟨g, 0, none⟩) :
    ∀ j u, (rvs (L.drop s))[j]? = some u → w.cell? ((⟨g, s * 4, none⟩ : Addr).add j) = some u := by
  intro j u hu
  have hj : j < (rvs (L.drop s)).length := (List.getElem?_eq_some_iff.1 hu).1
  rw [rvs_len, List.length_drop] at hj
  have e : j = j / 4 * 4 + j % 4 := by omega
  have hf : j % 4 < 4 := by omega
  have hi : j / 4 < (L.drop s).length := by rw [List.length_drop]; omega
  have hi2 : s + j / 4 < L.length := by omega
  rw [e, rvs_at (L.drop s) (j / 4) (j % 4) hf hi] at hu
  obtain ⟨g', e1, _, _, p0, p1, p2, p3⟩ := h (s + j / 4) hi2
  obtain rfl : g = g' := by rw [ha] at e1; simpa using e1
  have hd : (L.drop s)[j / 4] = L[s + j / 4] := by simp
  rw [hd] at hu
  generalize L[s + j / 4] = x at *
  have c : j % 4 = 0 ∨ j % 4 = 1 ∨ j % 4 = 2 ∨ j % 4 = 3 := by omega
  rw [Go.WideShapes.add_plain]
  rcases c with c | c | c | c
  · rw [c] at hu; simp [rv] at hu; subst hu; rw [show s * 4 + j = (s + j / 4) * 4 from by omega]; exact p0
  · rw [c] at hu; simp [rv] at hu; subst hu; rw [show s * 4 + j = (s + j / 4) * 4 + 1 from by omega]; exact p1
  · rw [c] at hu; simp [rv] at hu; subst hu; rw [show s * 4 + j = (s + j / 4) * 4 + 2 from by omega]; exact p2
  · rw [c] at hu; simp [rv] at hu; subst hu; rw [show s * 4 + j = (s + j / 4) * 4 + 3 from by omega]; exact p3
set_option maxHeartbeats 1600000 in
set_option maxRecDepth 100000 in
theorem rrecords_at (p q : Nat) (v : Value) (L : List R4) (w : World) (c0 : w.cell? ⟨p, q, none⟩ = some v) (hpl : p < w.heap.size) (own : w.ownsRow 0 173 4 v L.length (rvs L)) (nl : L.length = 0 → v = .slice none 0 0) (hn : L.length < 1000000) :
    Calls Tryz.prog 82 #[.pointer (some ⟨p, q, none⟩)] w fun e w' => ∃ v', e = .returned v' ∧ Hid (w'.ownsRow w.heap.size 173 4 v' (lst L).length (rvs (lst L)) ∧ Below w.heap.size w w') := by
  have HG : Hid (_) := nl
  obtain ⟨a, cap, rfl, _, hcs⟩ := own_cells4 own
  have HC : Hid (_) := hcs
  have hcap : L.length ≤ cap := by
    rcases own.2 with ⟨e, hz⟩ | ⟨_, _, _, e, _, _, h1, _⟩
    · omega
    · simp only [Value.slice.injEq] at e; obtain ⟨_, _, rfl⟩ := e; exact h1
  obtain ⟨n, en⟩ : ∃ n, n = L.length := ⟨_, rfl⟩
  obtain ⟨s, es⟩ : ∃ s, s = n - 16 := ⟨_, rfl⟩
  have HN : Hid (n = L.length ∧ s = n - 16 ∧ (lst L).length = n - s ∧ lst L = L.drop s) := ⟨en, es, by rw [lst_len]; omega, by rw [lst, ← en, ← es]⟩
  rw [← en] at c0 hn hcap
  clear en es hcs own nl
  have e1 : IntKind.i64.wrap ((n : Int) - 16) = (n : Int) - 16 := by rw [IntKind.wrap_i64]; omega
  go_enter Tryz.func82, Tryz.ntmps82
  go_upto_if 11 with fail
  go_cut [3] (fun x wx => x = .int .i64 ((s : Nat) : Int) ∧ wx = w)
  case first =>
    by_cases h16 : n < 16
    · obtain rfl : s = 0 := by have := HN.out.2.1; omega
      have : (n : Int) - 16 < 0 := by omega
      go_wp2_with fail
      go_meet
      exact ⟨rfl, rfl⟩
    · have hs : (n : Int) - 16 = (s : Int) := by have := HN.out.2.1; omega
      have : ¬ (n : Int) - 16 < 0 := by omega
      go_wp2_with fail
      go_meet
      exact ⟨by simp, rfl⟩
  case rest =>
    obtain ⟨rfl, rfl⟩ := hcut
    have hsn : s ≤ n := by have := HN.out.2.1; omega
    have ca1 : (wc.alloc (.cells #[] 173)).cell? ⟨p, q, none⟩ = some (.slice a n cap) := (World.cell?_of_block ((Off.alloc [] wc _).block p hpl (by simp))).trans c0
    obtain ⟨i0, hi, hz0, hz1, hz2⟩ := info_parts info_rec
    have hown : (wc.alloc (.cells #[] 173)).ownsRow wc.heap.size 173 4 (.slice (some ⟨wc.heap.size, 0, none⟩) 0 0) 0 [] := World.ownsRow_made wc #[] 0 (Nat.le_refl _) (Nat.zero_le _) rfl
    have hbl : Below wc.heap.size wc (wc.alloc (.cells #[] 173)) := (Below.refl _ _).alloc (Nat.le_refl _) _
    have hsz : wc.heap.size ≤ (wc.alloc (.cells #[] 173)).heap.size := by simp
    by_cases h0 : n = 0
    · have h00 : a = none ∧ cap = 0 := by have := HG.out (by have := HN.out.1; omega); simp only [Value.slice.injEq] at this; exact ⟨this.1, this.2.2⟩
      obtain ⟨rfl, rfl⟩ := h00
      obtain rfl : s = 0 := by omega
      have HL : Hid (lst L = []) := by
        show _ = _
        rw [HN.out.2.2.2, List.drop_eq_nil_of_le (by have := HN.out.1; omega)]
      subst h0
      have HO : Hid ((wc.alloc (.cells #[] 173)).ownsRow wc.heap.size 173 4 (.slice (some ⟨wc.heap.size, 0, none⟩) 0 0) (lst L).length (rvs (lst L)) ∧ Below wc.heap.size wc (wc.alloc (.cells #[] 173))) := by
        rw [HL.out]; exact ⟨hown, hbl⟩
      clear hown hbl
      go_wp2_with fail
      go_ret
      exact ⟨_, rfl, HO⟩
    · obtain ⟨g, rfl, _, hgl, _⟩ := HC.out 0 (by have := HN.out.1; omega)
      have hnews : ∀ j u, (rvs (L.drop s))[j]? = some u → (wc.alloc (.cells #[] 173)).cell? ((⟨g, s * 4, none⟩ : Addr).add j) = some u := by
        intro j u hu
        have h1 := lst_cells HC.out rfl j u hu
        rw [Go.WideShapes.add_plain] at h1 ⊢
        exact (World.cell?_of_block ((Off.alloc [] wc _).block g hgl (by simp))).trans h1
      have hcs : ¬ cap = s := by have := HN.out.2.1; omega
      have hl4 : (rvs (L.drop s)).length = (n - s) * 4 := by rw [rvs_len, List.length_drop, ← HN.out.1]
      go_wp2_with (at_builtin; refine wpList_append_own _ rfl (.tmp 12) (.tmp 18) 88 rfl wc.heap.size 173 i0 _ 4 24 Tryz.underlying88 hi hz0 hz1 hz2 rfl (by decide) _ 0 [] rfl hown ⟨g, s * 4, none⟩ (n - s) (cap - s) (rvs (L.drop s)) rfl hl4 hnews (rvs_one' _) (by unfold maxLen; omega) (by omega) hsz ?_)
      intro v3 w3 hown3 hgrow3 _
      have HO : Hid (w3.ownsRow wc.heap.size 173 4 v3 (lst L).length (rvs (lst L)) ∧ Below wc.heap.size wc w3) := by
        refine ⟨?_, hbl.grown hgrow3 hsz (fun j hj => (hown.lt j hj).1)⟩
        rw [HN.out.2.2.1, HN.out.2.2.2]
        exact hown3
      clear hown3 hgrow3 hown hnews hl4 hbl
      go_wp2_with fail
      go_ret
      exact ⟨_, rfl, HO⟩
end Go.Proofs.YtndjepeolamedaaGreat
