/- Part 50 of the texts on which the proofs of layer 13 rest: contracts of Go functions. -/
import Derived.Deep.RegionHeld3
import Derived.Test.YtpgdghjlfdehjaaGreatPkR34
import Derived.Test.YtpgdghjlfdehjaaGreatPkR43
import Derived.Test.YtpgdghjlfdehjaaGreatPkR44
import Derived.Test.YtpgdghjlfdehjaaGreatPkR45
import Derived.Test.YtpgdghjlfdehjaaGreatPkR46
import Derived.Test.YtpgdghjlfdehjaaGreatPkR47
import Derived.Test.YtpgdghjlfdehjaaGreatPkR48
namespace Go.Proofs.YtpgdghjlfdehjaaGreat
set_option maxRecDepth 100000
open Go.RowKit
theorem frame_op (d m g n mx : Nat) (P : Pm) (U : List Nat) (s : Sd) (K N fl : Int) (odd : Bool) (a : Option Addr) (len cap : Nat) (bs : Nat → Nat) (p : Int) (x : Nat) (w : World) (h : RW w d m g n mx P U s) (hr : Row8 w a len cap bs) (ha : ∀ y, a = some y → 0 < len → y.block < w.heap.size) (hss : s.ss < 4294967296) (hx : x < 4294967296) (hlen : len ≤ 140737488351232) (hk : 1 ≤ K ∧ K ≤ 7) :
    Calls Tryz.prog 22 #[.pointer (some ⟨d, 0, none⟩), .agg #[.int .i64 K, .int .i64 N, .int .i64 fl, .bool odd, .slice a len cap, .int .i64 p, .int .u32 (x : Nat)]] w fun e w' => ∃ v, e = .returned (.tuple #[v, .bool true]) ∧ Hid (Below w.heap.size w w' ∧ ∃ f, Fr w' w.heap.size v f ∧ (∀ i, i < f.1 → f.2 i < 256) ∧ f.1 ≤ 140737488351232 ∧ Fo P s K N fl odd len bs x f) := by
  have : K = 1 ∨ K = 2 ∨ K = 3 ∨ K = 4 ∨ K = 5 ∨ K = 6 ∨ K = 7 := by omega
  rcases this with rfl | rfl | rfl | rfl | rfl | rfl | rfl
  · exact frame1_any d m g n mx P U s N fl odd a len cap bs p x w h hr ha hss
  · exact frame2_any d m g n mx P U s N fl odd a len cap bs p x w h hr ha hss
  · exact frame3_any d m g n mx P U s N fl odd a len cap bs p x w h hr ha hss
  · exact frame4_any d m g n mx P U s N fl odd a len cap bs p x w h hr ha hss
  · exact frame5_any d m g n mx P U s N fl odd a len cap bs p x w h hr ha hss
  · exact frame6_any d m g n mx P U s N fl odd a len cap bs p x w h hr ha hss hlen
  · exact frame7_any d m g n mx P U s N fl odd a len cap bs p x w h hr ha hss hx
end Go.Proofs.YtpgdghjlfdehjaaGreat
namespace Go.Proofs.YtpgdghjlfdehjaaGreat
set_option maxRecDepth 100000
open Go.RowKit
theorem dsay_byte (P : Pm) (s : Sd) (k num fl len : Nat) (bs : Nat → Nat) (hb : ∀ i, i < len → bs i < 256) : ∀ i, i < (dsay P s k num fl len bs).1 → (dsay P s k num fl len bs).2 i < 256 := encF_byte _ _ _ _ _ _ _ hb
theorem no_byte {bs : Nat → Nat} : ∀ i, i < 0 → bs i < 256 := fun i hi => absurd hi (Nat.not_lt_zero i)
theorem fm0_byte : ∀ i, i < fm0.1 → fm0.2 i < 256 := fun i hi => absurd hi (Nat.not_lt_zero i)
theorem dbegin_byte (P : Pm) (mx n : Nat) (s : Sd) : ∀ i, i < (dbegin P mx n s).f.1 → (dbegin P mx n s).f.2 i < 256 := by
  unfold dbegin
  split
  · exact dsay_byte _ _ _ _ _ _ _ no_byte
  · split
    · exact fm0_byte
    · exact dsay_byte _ _ _ _ _ _ _ (dsg_byte P)
theorem dwish_byte (P : Pm) (mx n : Nat) (s : Sd) : ∀ i, i < (dwish P mx n s).f.1 → (dwish P mx n s).f.2 i < 256 := by
  unfold dwish
  split
  · exact dsay_byte _ _ _ _ _ _ _ (dsg_byte P)
  · split
    · exact dsay_byte _ _ _ _ _ _ _ no_byte
    · exact dbegin_byte P mx n _
theorem drefuse_byte (P : Pm) (s : Sd) (e : Int) : ∀ i, i < (drefuse P s e).f.1 → (drefuse P s e).f.2 i < 256 := dsay_byte _ _ _ _ _ _ _ no_byte
theorem dtake_byte (P : Pm) (mx n : Nat) (s : Sd) (hap : ∀ i, i < P.i → s.ap i < 256) (k ss num fl len : Nat) (bs : Nat → Nat) : ∀ i, i < (dtake P mx n s k ss num fl len bs).f.1 → (dtake P mx n s k ss num fl len bs).f.2 i < 256 := by
  unfold dtake
  split
  · split
    · exact dwish_byte P mx n s
    · exact drefuse_byte P s _
  · split
    · split
      · exact dsay_byte _ _ _ _ _ _ _ no_byte
      · exact drefuse_byte P s _
    · split
      · exact dsay_byte _ _ _ _ _ _ _ no_byte
      · split
        · exact dsay_byte _ _ _ _ _ _ _ hap
        · split
          · exact dsay_byte _ _ _ _ _ _ _ no_byte
          · exact drefuse_byte P s _
theorem drecv_byte (P : Pm) (mx n : Nat) (s : Sd) (hap : ∀ i, i < P.i → s.ap i < 256) (len : Nat) (bs : Nat → Nat) : ∀ i, i < (drecv P mx n s len bs).f.1 → (drecv P mx n s len bs).f.2 i < 256 := by
  have hh : ∀ i, i < (dhear P mx n s len bs).f.1 → (dhear P mx n s len bs).f.2 i < 256 := by
    unfold dhear
    split
    · exact fm0_byte
    · split
      · exact fm0_byte
      · split
        · exact fm0_byte
        · exact dtake_byte P mx n s hap _ _ _ _ _ _
  unfold drecv
  split
  · exact fm0_byte
  · split
    · exact hh
    · exact hh
set_option maxHeartbeats 6400000 in
theorem step_recv (w0 w : World) (L : Pl) (s : Sd) (K N fl : Int) (odd : Bool) (a : Option Addr) (len cap : Nat) (bs : Nat → Nat) (p : Int) (x : Nat) (h : Two w0 w L s) (hr : Row8 w a len cap bs) (hl : ∀ y, a = some y → 0 < len → y.block < w0.heap.size) (hk : 1 ≤ K ∧ K ≤ 7) (hx : x < 4294967296) (hlen : len ≤ 140737488351232) (hv : Iv L.P s) (hL : s.L.length < 800000) (ht : s.ms.t < 9223372036854774000) :
    Calls Tryz.prog 23 #[.pointer (some ⟨L.d, 0, none⟩), .pointer (some ⟨L.m, 0, none⟩), .pointer (some ⟨L.e, 0, none⟩), .agg #[.int .i64 K, .int .i64 N, .int .i64 fl, .bool odd, .slice a len cap, .int .i64 p, .int .u32 (x : Nat)]] w fun e w' => e = .returned (.bool true) ∧ Hid (∃ f, (∀ i, i < f.1 → f.2 i < 256) ∧ Fo L.P s K N fl odd len bs x f ∧ Two w0 w' L (drecv L.P L.mx L.n s f.1 f.2).s) := by
  obtain ⟨i0, hi, hz0, hz1, hz2⟩ := info_parts info_u8
  have hbd := build0D
  obtain ⟨U, V, T⟩ := h
  have b0 : Below w.heap.size w (w.alloc (.cells #[.int .i64 K, .int .i64 N, .int .i64 fl, .bool odd, .slice a len cap, .int .i64 p, .int .u32 (x : Nat)] 49)) := (Below.refl _ _).alloc (Nat.le_refl _) _
  have T1 := T.below b0
  have hFr := frame_op L.e L.r L.q L.n L.mx L.P V s K N fl odd a len cap bs p x _ T1.rw (hr.below b0) (fun y hy h0 => by have := hl y hy h0; have := T1.bel.size; omega) hv.ss hx hlen hk
  have hP : Pok L.P := by obtain ⟨B, y⟩ := T.dv; exact y.pok
  have hap : ∀ i, i < L.P.i → s.ap i < 256 := by obtain ⟨B, y⟩ := T.dv; exact y.apb
  have H0 : Hid (_) := And.intro T1 (And.intro hv (And.intro hL (And.intro ht (And.intro hP hap))))
  clear T b0 T1 hr hl hk hx hlen hv hL ht hP hap
  go_enter Tryz.func23, Tryz.ntmps23
  go_wp2_with fail
  refine hFr.mono ?_
  rintro e w2 ⟨v, rfl, h2⟩
  generalize w.alloc (.cells #[.int .i64 K, .int .i64 N, .int .i64 fl, .bool odd, .slice a len cap, .int .i64 p, .int .u32 (x : Nat)] 49) = w1 at *
  obtain ⟨b2, f, F2, y2, l2, fo2⟩ := h2.out
  obtain ⟨av, cv, rfl, rv⟩ := F2.row y2
  have T2 := H0.out.1.below b2
  have hfar : ∀ y, av = some y → w1.heap.size ≤ y.block := fun y hy => (own_far F2 y hy).1
  have hbelA : Below w2.heap.size w2 (w2.alloc (.cells #[] 5)) := (Below.refl _ _).alloc (Nat.le_refl _) _
  have R0 := rv.below hbelA
  have O0 := own0D w2.heap.size f.2 w2 (Nat.le_refl _)
  have hszA := hbelA.size
  have H2 : Hid (_) := And.intro T2 (And.intro rv (And.intro y2 (And.intro fo2 hfar)))
  clear hFr h2 b2 F2 T2 rv y2 fo2 hfar
  go_wp2_with (at_builtin; refine wpList_append_row8 rfl (.tmp 24) (.tmp 25) 42 rfl w2.heap.size 5 i0 (.int .u8 0) Tryz.underlying42 hi hz0 hz1 hz2 rfl _ 0 _ rfl O0 av f.1 cv f.2 rfl R0 (by unfold maxLen; omega) (by omega) hszA ?_)
  intro v3 w3 hown3 hgrow3
  have b3 : Below w2.heap.size w2 w3 := hbelA.grown hgrow3 hszA (fun k hk => (O0.lt k hk).1)
  rw [show CB f.2 0 = [] from rfl, List.nil_append] at hown3
  have own3 : w3.ownsRow w2.heap.size 5 1 v3 f.1 (CB f.2 f.1) := by simpa using hown3
  obtain ⟨T2, rv, y2, fo2, hfar⟩ := H2.out
  obtain ⟨T1, hv, hL, ht, hP, hap⟩ := H0.out
  obtain ⟨a3, c3, rfl, r3⟩ := own_row8 own3 y2
  have T3 := T2.below b3
  have rv3 := rv.below b3
  have hRc := receive4_any L.d L.m L.g L.n L.mx L.P U s a3 f.1 c3 f.2 w3 T3.dv r3 (hv.sent hP) hv.od hL ht
  have hby := drecv_byte L.P L.mx L.n s hap f.1 f.2
  have hRF : ∀ w4 U4, Gr U w3 U4 w4 → DV w4 L.d L.m L.g L.n L.mx L.P U4 (drecv L.P L.mx L.n s f.1 f.2).s → Bt w0 w4 L (drecv L.P L.mx L.n s f.1 f.2).s s [] U4 V ∧ Calls Tryz.prog 30 #[.pointer (some ⟨L.e, 0, none⟩), .slice av f.1 cv] w4 fun e w' => ∃ v, e = .returned (.tuple #[v, .int .i64 (drecv L.P L.mx L.n s f.1 f.2).e]) ∧ Hid (OutR V w4 w' L.e L.r L.q L.n L.mx L.P (drecv L.P L.mx L.n s f.1 f.2).s (drecv L.P L.mx L.n s f.1 f.2).f v) := by
    intro w4 U4 g4 x4
    have T4 := T3.dev g4 x4
    refine ⟨T4, rreceive_any L.e L.r L.q L.n L.mx L.P V s av f.1 cv f.2 w4 T4.rw (rv3.off g4.off (fun y hy hm => ?_)) (hv.sent hP) hv.od hL ht hv.ss⟩
    have := hfar y hy
    have := T1.dv.ult _ hm
    omega
  have HR : Hid (_) := hRF
  clear hRF
  have H3 : Hid (_) := And.intro T3 (And.intro hby (And.intro y2 fo2))
  generalize hRR : drecv L.P L.mx L.n s f.1 f.2 = R at *
  have HRR : Hid (_) := hRR
  clear hRR
  clear hown3 hgrow3 b3 own3 T2 rv y2 fo2 hfar T1 hv hL ht hP hap r3 T3 rv3 O0 R0 hbelA hszA H0 H2 hby l2 hbd
  go_wp2_with fail
  refine hRc.mono ?_
  rintro e w4 ⟨vx, rfl, h4⟩
  obtain ⟨U4, g4, x4, fx, kx⟩ := h4.out
  obtain ⟨T4, hR2⟩ := HR.out w4 U4 g4 x4
  obtain ⟨ax, cx, rfl, _⟩ := fx.row H3.out.2.1
  have H4 : Hid (_) := And.intro T4 (And.intro fx (And.intro H3.out g4.off.size))
  clear hRc h4 g4 x4 fx kx HR T4 H3
  go_wp2_with fail
  refine hR2.mono ?_
  rintro e w5 ⟨vy, rfl, h5⟩
  obtain ⟨T4, fx, ⟨T3, hby, y2, fo2⟩, hs4⟩ := H4.out
  obtain ⟨V5, g5, x5, fy, ky⟩ := h5.out
  have T5 := T4.ref g5 x5
  have fx5 : Fr w5 w3.heap.size (.slice ax R.f.1 cx) R.f := own_offk fx g5.off (fun k hk hm => by
    have := fx.ge k hk
    have := T3.rw.ult k hm
    omega)
  obtain ⟨ax', cx', ex, rx⟩ := fx5.row hby
  simp only [Value.slice.injEq, true_and] at ex
  obtain ⟨rfl, rfl⟩ := ex
  obtain ⟨ay, cy, rfl, ry⟩ := fy.row hby
  have q1 := conv_any ax R.f.1 cx R.f.2 w5 rx
  have q2 := conv_any ay R.f.1 cy R.f.2 w5 ry
  obtain ⟨X, hX⟩ : ∃ X, BA R.f.2 R.f.1 = X := ⟨_, rfl⟩
  rw [hX] at q1 q2
  have H5 : Hid (_) := And.intro y2 (And.intro fo2 T5)
  clear hR2 h5 T4 fx T3 hby y2 fo2 hs4 g5 x5 fy ky T5 fx5 rx ry hX H4
  go_wp2_with fail
  go_ret
  exact ⟨by simp, f, H5.out.1, H5.out.2.1, U4, V5, by rw [HRR.out]; exact H5.out.2.2⟩
end Go.Proofs.YtpgdghjlfdehjaaGreat
namespace Go.Proofs.YtpgdghjlfdehjaaGreat
set_option maxRecDepth 100000
open Go.RowKit
theorem dresetAll (d m g n mx : Nat) (P : Pm) (U : List Nat) (s : Sd) (k : Int) (w : World) (h : DV w d m g n mx P U s) (hk : k ≤ 9223372036854775807) (ht : s.ms.t < 9223372036854774000) :
    Calls Tryz.prog 70 #[.pointer (some ⟨d, 0, none⟩), .int .i64 k] w fun e w' => e = .returned (.int .i64 (dresetE mx n s k)) ∧ Hid (∃ U', Gr U w U' w' ∧ DV w' d m g n mx P U' (dresetS mx n s k)) := by
  by_cases h0 : k < 0
  · refine (reset_neg d k w h0).mono ?_
    rintro e w' ⟨rfl, rfl⟩
    rw [show dresetE mx n s k = 2 from if_pos h0, show dresetS mx n s k = s from if_pos h0]
    exact ⟨rfl, U, Gr.refl _ _, h⟩
  · exact dvreset_any d m g n mx P U s k w h (by omega) hk ht
theorem rresetAll (d m g n mx : Nat) (P : Pm) (U : List Nat) (s : Sd) (k : Int) (w : World) (h : RW w d m g n mx P U s) (hk : k ≤ 9223372036854775807) (ht : s.ms.t < 9223372036854774000) :
    Calls Tryz.prog 71 #[.pointer (some ⟨d, 0, none⟩), .int .i64 k] w fun e w' => e = .returned (.int .i64 (dresetE mx n s k)) ∧ Hid (∃ U', Gr U w U' w' ∧ RW w' d m g n mx P U' (dresetS mx n s k)) := by
  by_cases h0 : k < 0
  · refine (rreset_neg d k w h0).mono ?_
    rintro e w' ⟨rfl, rfl⟩
    rw [show dresetE mx n s k = 2 from if_pos h0, show dresetS mx n s k = s from if_pos h0]
    exact ⟨rfl, U, Gr.refl _ _, h⟩
  · exact rvreset_any d m g n mx P U s k w h (by omega) hk ht
set_option maxHeartbeats 6400000 in
theorem step8_any (w0 w : World) (L : Pl) (s : Sd) (N fl : Int) (odd : Bool) (a : Option Addr) (len cap : Nat) (bs : Nat → Nat) (p : Int) (x : Nat) (h : Two w0 w L s) (hr : Row8 w a len cap bs) (hl : ∀ y, a = some y → 0 < len → y.block < w0.heap.size) (hss : s.ss < 4294967296) (hN : N ≤ 9223372036854775807) (hL : s.L.length < 800000) :
    Calls Tryz.prog 23 #[.pointer (some ⟨L.d, 0, none⟩), .pointer (some ⟨L.m, 0, none⟩), .pointer (some ⟨L.e, 0, none⟩), .agg #[.int .i64 8, .int .i64 N, .int .i64 fl, .bool odd, .slice a len cap, .int .i64 p, .int .u32 (x : Nat)]] w fun e w' => e = .returned (.bool true) ∧ Hid (Two w0 w' L (dtickS L.P s N)) := by
  have P0 := h.ph #[.int .i64 8, .int .i64 N, .int .i64 fl, .bool odd, .slice a len cap, .int .i64 p, .int .u32 (x : Nat)] hr hl
  obtain ⟨V, rv, _⟩ := P0.ref
  have hFr := frameN_any L.e L.r L.q L.n L.mx L.P V s 8 N fl odd a len cap bs p x (w.alloc (.cells #[.int .i64 8, .int .i64 N, .int .i64 fl, .bool odd, .slice a len cap, .int .i64 p, .int .u32 (x : Nat)] 49)) rv P0.row (fun y hy h0 => by
    obtain ⟨U', V', T⟩ := P0.bt
    have := hl y hy h0; have := T.bel.size; omega) hss (by omega)
  have HP : Hid (_) := P0
  have HB : Hid (_) := And.intro hN hL
  clear hN hL
  clear h hr hl hss P0 rv
  go_enter Tryz.func23, Tryz.ntmps23
  go_wp2_with (go_at_call 22; refine hFr.mono ?_; rintro e w2 ⟨rfl, b2⟩; have P2 := HP.out.below b2; have c0 : w2.cell? ⟨w.heap.size, 0, none⟩ = some (.int .i64 8) := cell_of_row w2 _ 0 _ _ _ P2.bx; have c1 : w2.cell? ⟨w.heap.size, 1, none⟩ = some (.int .i64 N) := cell_of_row w2 _ 1 _ _ _ P2.bx; have H2 : Hid (_) := P2; clear P2 b2 hFr HP)
  clear c0
  have cA := fun t wx (hx : Ph w0 wx L s t w.heap.size #[.int .i64 8, .int .i64 N, .int .i64 fl, .bool odd, .slice a len cap, .int .i64 p, .int .u32 (x : Nat)] a len cap bs) => (by
    obtain ⟨U, hd, hk⟩ := hx.dev
    refine (dvtick_any L.d L.m L.g L.n L.mx L.P U s N wx hd HB.out.1 HB.out.2).mono ?_
    rintro e w' ⟨rfl, h5⟩
    obtain ⟨U', g5, x5⟩ := h5.out
    exact ⟨rfl, hk U' w' _ g5 x5⟩ : Calls Tryz.prog 66 #[.pointer (some ⟨L.d, 0, none⟩), .int .i64 N] wx fun e w' => e = .returned (.int .i64 (dtickE s N)) ∧ Ph w0 w' L (dtickS L.P s N) t w.heap.size #[.int .i64 8, .int .i64 N, .int .i64 fl, .bool odd, .slice a len cap, .int .i64 p, .int .u32 (x : Nat)] a len cap bs)
  have cB := fun t wx (hx : Ph w0 wx L t s w.heap.size #[.int .i64 8, .int .i64 N, .int .i64 fl, .bool odd, .slice a len cap, .int .i64 p, .int .u32 (x : Nat)] a len cap bs) => (by
    obtain ⟨U, hd, hk⟩ := hx.ref
    refine (rvtick_any L.e L.r L.q L.n L.mx L.P U s N wx hd HB.out.1 HB.out.2).mono ?_
    rintro e w' ⟨rfl, h5⟩
    obtain ⟨U', g5, x5⟩ := h5.out
    exact ⟨rfl, hk U' w' _ g5 x5⟩ : Calls Tryz.prog 67 #[.pointer (some ⟨L.e, 0, none⟩), .int .i64 N] wx fun e w' => e = .returned (.int .i64 (dtickE s N)) ∧ Ph w0 w' L t (dtickS L.P s N) w.heap.size #[.int .i64 8, .int .i64 N, .int .i64 fl, .bool odd, .slice a len cap, .int .i64 p, .int .u32 (x : Nat)] a len cap bs)
  have P1 : Hid (_) := H2.out.drew
  have HS : w2.drew.cell? ⟨w.heap.size, 1, none⟩ = some (.int .i64 N) := cell_of_row w2.drew _ 1 _ _ _ P1.out.bx
  clear c1 H2
  obtain ⟨s2, hs2⟩ : ∃ S, (dtickS L.P s N) = S := ⟨_, rfl⟩
  obtain ⟨r, hr2⟩ : ∃ S, (dtickE s N) = S := ⟨_, rfl⟩
  rw [hs2, hr2] at cA cB
  have HE : Hid (_) := hs2
  clear hs2 hr2
  go_region_held3 (fun w' => w'.cell? ⟨w.heap.size, 1, none⟩ = some (.int .i64 N)) (assumption) (first
    | (go_at_call 66; (first | refine (cA _ _ h1.out).mono ?_ | refine (cA _ _ P1.out).mono ?_); rintro e w1 ⟨rfl, h2⟩; have HT : w1.cell? ⟨w.heap.size, 1, none⟩ = some (.int .i64 N) := cell_of_row w1 _ 1 _ _ _ h2.bx; have h1 : Hid (_) := h2; clear h2)
    | (go_at_call 67; (first | refine (cB _ _ h1.out).mono ?_ | refine (cB _ _ P1.out).mono ?_); rintro e w1 ⟨rfl, h2⟩; have HT : w1.cell? ⟨w.heap.size, 1, none⟩ = some (.int .i64 N) := cell_of_row w1 _ 1 _ _ _ h2.bx; have h1 : Hid (_) := h2; clear h2))
  all_goals
    go_wp2_with fail
    go_ret
    rw [HE.out]
    exact ⟨by simp, h1.out.two⟩
set_option maxHeartbeats 6400000 in
theorem step11_any (w0 w : World) (L : Pl) (s : Sd) (N fl : Int) (odd : Bool) (a : Option Addr) (len cap : Nat) (bs : Nat → Nat) (p : Int) (x : Nat) (h : Two w0 w L s) (hr : Row8 w a len cap bs) (hl : ∀ y, a = some y → 0 < len → y.block < w0.heap.size) (hss : s.ss < 4294967296) (hN : N ≤ 9223372036854775807) (ht : s.ms.t < 9223372036854774000) :
    Calls Tryz.prog 23 #[.pointer (some ⟨L.d, 0, none⟩), .pointer (some ⟨L.m, 0, none⟩), .pointer (some ⟨L.e, 0, none⟩), .agg #[.int .i64 11, .int .i64 N, .int .i64 fl, .bool odd, .slice a len cap, .int .i64 p, .int .u32 (x : Nat)]] w fun e w' => e = .returned (.bool true) ∧ Hid (Two w0 w' L (dresetS L.mx L.n s N)) := by
  have P0 := h.ph #[.int .i64 11, .int .i64 N, .int .i64 fl, .bool odd, .slice a len cap, .int .i64 p, .int .u32 (x : Nat)] hr hl
  obtain ⟨V, rv, _⟩ := P0.ref
  have hFr := frameN_any L.e L.r L.q L.n L.mx L.P V s 11 N fl odd a len cap bs p x (w.alloc (.cells #[.int .i64 11, .int .i64 N, .int .i64 fl, .bool odd, .slice a len cap, .int .i64 p, .int .u32 (x : Nat)] 49)) rv P0.row (fun y hy h0 => by
    obtain ⟨U', V', T⟩ := P0.bt
    have := hl y hy h0; have := T.bel.size; omega) hss (by omega)
  have HP : Hid (_) := P0
  have HB : Hid (_) := And.intro hN ht
  clear hN ht
  clear h hr hl hss P0 rv
  go_enter Tryz.func23, Tryz.ntmps23
  go_wp2_with (go_at_call 22; refine hFr.mono ?_; rintro e w2 ⟨rfl, b2⟩; have P2 := HP.out.below b2; have c0 : w2.cell? ⟨w.heap.size, 0, none⟩ = some (.int .i64 11) := cell_of_row w2 _ 0 _ _ _ P2.bx; have c1 : w2.cell? ⟨w.heap.size, 1, none⟩ = some (.int .i64 N) := cell_of_row w2 _ 1 _ _ _ P2.bx; have H2 : Hid (_) := P2; clear P2 b2 hFr HP)
  clear c0
  have cA := fun t wx (hx : Ph w0 wx L s t w.heap.size #[.int .i64 11, .int .i64 N, .int .i64 fl, .bool odd, .slice a len cap, .int .i64 p, .int .u32 (x : Nat)] a len cap bs) => (by
    obtain ⟨U, hd, hk⟩ := hx.dev
    refine (dresetAll L.d L.m L.g L.n L.mx L.P U s N wx hd HB.out.1 HB.out.2).mono ?_
    rintro e w' ⟨rfl, h5⟩
    obtain ⟨U', g5, x5⟩ := h5.out
    exact ⟨rfl, hk U' w' _ g5 x5⟩ : Calls Tryz.prog 70 #[.pointer (some ⟨L.d, 0, none⟩), .int .i64 N] wx fun e w' => e = .returned (.int .i64 (dresetE L.mx L.n s N)) ∧ Ph w0 w' L (dresetS L.mx L.n s N) t w.heap.size #[.int .i64 11, .int .i64 N, .int .i64 fl, .bool odd, .slice a len cap, .int .i64 p, .int .u32 (x : Nat)] a len cap bs)
  have cB := fun t wx (hx : Ph w0 wx L t s w.heap.size #[.int .i64 11, .int .i64 N, .int .i64 fl, .bool odd, .slice a len cap, .int .i64 p, .int .u32 (x : Nat)] a len cap bs) => (by
    obtain ⟨U, hd, hk⟩ := hx.ref
    refine (rresetAll L.e L.r L.q L.n L.mx L.P U s N wx hd HB.out.1 HB.out.2).mono ?_
    rintro e w' ⟨rfl, h5⟩
    obtain ⟨U', g5, x5⟩ := h5.out
    exact ⟨rfl, hk U' w' _ g5 x5⟩ : Calls Tryz.prog 71 #[.pointer (some ⟨L.e, 0, none⟩), .int .i64 N] wx fun e w' => e = .returned (.int .i64 (dresetE L.mx L.n s N)) ∧ Ph w0 w' L t (dresetS L.mx L.n s N) w.heap.size #[.int .i64 11, .int .i64 N, .int .i64 fl, .bool odd, .slice a len cap, .int .i64 p, .int .u32 (x : Nat)] a len cap bs)
  have P1 : Hid (_) := H2.out.drew
  have HS : w2.drew.cell? ⟨w.heap.size, 1, none⟩ = some (.int .i64 N) := cell_of_row w2.drew _ 1 _ _ _ P1.out.bx
  clear c1 H2
  obtain ⟨s2, hs2⟩ : ∃ S, (dresetS L.mx L.n s N) = S := ⟨_, rfl⟩
  obtain ⟨r, hr2⟩ : ∃ S, (dresetE L.mx L.n s N) = S := ⟨_, rfl⟩
  rw [hs2, hr2] at cA cB
  have HE : Hid (_) := hs2
  clear hs2 hr2
  go_region_held3 (fun w' => w'.cell? ⟨w.heap.size, 1, none⟩ = some (.int .i64 N)) (assumption) (first
    | (go_at_call 70; (first | refine (cA _ _ h1.out).mono ?_ | refine (cA _ _ P1.out).mono ?_); rintro e w1 ⟨rfl, h2⟩; have HT : w1.cell? ⟨w.heap.size, 1, none⟩ = some (.int .i64 N) := cell_of_row w1 _ 1 _ _ _ h2.bx; have h1 : Hid (_) := h2; clear h2)
    | (go_at_call 71; (first | refine (cB _ _ h1.out).mono ?_ | refine (cB _ _ P1.out).mono ?_); rintro e w1 ⟨rfl, h2⟩; have HT : w1.cell? ⟨w.heap.size, 1, none⟩ = some (.int .i64 N) := cell_of_row w1 _ 1 _ _ _ h2.bx; have h1 : Hid (_) := h2; clear h2))
  all_goals
    go_wp2_with fail
    go_ret
    rw [HE.out]
    exact ⟨by simp, h1.out.two⟩
set_option maxHeartbeats 6400000 in
theorem stepN_any (w0 w : World) (L : Pl) (s : Sd) (K N fl : Int) (odd : Bool) (a : Option Addr) (len cap : Nat) (bs : Nat → Nat) (p : Int) (x : Nat) (h : Two w0 w L s) (hr : Row8 w a len cap bs) (hl : ∀ y, a = some y → 0 < len → y.block < w0.heap.size) (hss : s.ss < 4294967296) (hK : ¬ (1 ≤ K ∧ K ≤ 12)) :
    Calls Tryz.prog 23 #[.pointer (some ⟨L.d, 0, none⟩), .pointer (some ⟨L.m, 0, none⟩), .pointer (some ⟨L.e, 0, none⟩), .agg #[.int .i64 K, .int .i64 N, .int .i64 fl, .bool odd, .slice a len cap, .int .i64 p, .int .u32 (x : Nat)]] w fun e w' => e = .returned (.bool true) ∧ Hid (Two w0 w' L s) := by
  have P0 := h.ph #[.int .i64 K, .int .i64 N, .int .i64 fl, .bool odd, .slice a len cap, .int .i64 p, .int .u32 (x : Nat)] hr hl
  obtain ⟨V, rv, _⟩ := P0.ref
  have hFr := frameN_any L.e L.r L.q L.n L.mx L.P V s K N fl odd a len cap bs p x (w.alloc (.cells #[.int .i64 K, .int .i64 N, .int .i64 fl, .bool odd, .slice a len cap, .int .i64 p, .int .u32 (x : Nat)] 49)) rv P0.row (fun y hy h0 => by
    obtain ⟨U', V', T⟩ := P0.bt
    have := hl y hy h0; have := T.bel.size; omega) hss (by omega)
  have HP : Hid (_) := P0
  have HK : Hid (_) := hK
  have k8 : (K == 8) = false := by simp; omega
  have k8' : (K = 8) = False := by simp; omega
  have k9 : (K == 9) = false := by simp; omega
  have k9' : (K = 9) = False := by simp; omega
  have k10 : (K == 10) = false := by simp; omega
  have k10' : (K = 10) = False := by simp; omega
  have k11 : (K == 11) = false := by simp; omega
  have k11' : (K = 11) = False := by simp; omega
  have k12 : (K == 12) = false := by simp; omega
  have k12' : (K = 12) = False := by simp; omega
  clear hK
  clear h hr hl hss P0 rv
  go_enter Tryz.func23, Tryz.ntmps23
  go_wp2_with (go_at_call 22; refine hFr.mono ?_; rintro e w2 ⟨rfl, b2⟩; have P2 := HP.out.below b2; have c0 : w2.cell? ⟨w.heap.size, 0, none⟩ = some (.int .i64 K) := cell_of_row w2 _ 0 _ _ _ P2.bx; have H2 : Hid (_) := P2; clear P2 b2 hFr HP)
  go_ret
  exact ⟨rfl, H2.out.two⟩
end Go.Proofs.YtpgdghjlfdehjaaGreat
namespace Go.Proofs.YtpgdghjlfdehjaaGreat
set_option maxRecDepth 100000
open Go.RowKit
theorem Ph.mem5 {w0 w : World} {L : Pl} {s t : Sd} {b : Nat} {O : Array Value} {a : Option Addr} {len cap : Nat} {bs : Nat → Nat} (h : Ph w0 w L s t b O a len cap bs) : w.cell? ⟨L.e, 5, none⟩ = some (.pointer (some ⟨L.r, 0, none⟩)) := by
  obtain ⟨V, ⟨B, x⟩, _⟩ := h.ref
  exact cell_of_row w L.e 5 _ _ _ x.dev
theorem rvarm_any (d m g n mx : Nat) (P : Pm) (U : List Nat) (s : Sd) (p : Int) (w : World) (h : RW w d m g n mx P U s) (hp : p ≤ 9223372036854775807) :
    Calls Tryz.prog 73 #[.pointer (some ⟨m, 0, none⟩), .int .i64 p] w fun e w' => e = .returned (.int .i64 (arE p)) ∧ Hid (∃ U', Gr U w U' w' ∧ RW w' d m g n mx P U' { s with ms := arS s.ms p }) := by
  obtain ⟨B, x⟩ := h
  refine (rarm_any m g n s.ms p w x.mem hp).mono ?_
  rintro e w' ⟨rfl, o, m'⟩
  refine ⟨rfl, U, Gr.same (o.more (m := [m, g, B.c]) (by simp)) x.memU, B, x.memd (o.more (by simp)) m' (A' := s.st ≠ 6) (fun hs => ?_)⟩
  obtain ⟨c1, c2, c3⟩ := x.cel hs
  have hne : B.c ∉ [m] := fun hm => by simp at hm; have := x.kc.1; rw [hm, x.km.1] at this; omega
  have e1 : (arS s.ms p).bs = s.ms.bs := by unfold arS; split <;> rfl
  have e2 : (arS s.ms p).off = s.ms.off := by unfold arS; split <;> rfl
  rw [e1, e2]
  exact ⟨c1, c2.off o hne, c3⟩
set_option maxHeartbeats 6400000 in
theorem step10_any (w0 w : World) (L : Pl) (s : Sd) (N fl : Int) (odd : Bool) (a : Option Addr) (len cap : Nat) (bs : Nat → Nat) (p : Int) (x : Nat) (h : Two w0 w L s) (hr : Row8 w a len cap bs) (hl : ∀ y, a = some y → 0 < len → y.block < w0.heap.size) (hss : s.ss < 4294967296) :
    Calls Tryz.prog 23 #[.pointer (some ⟨L.d, 0, none⟩), .pointer (some ⟨L.m, 0, none⟩), .pointer (some ⟨L.e, 0, none⟩), .agg #[.int .i64 10, .int .i64 N, .int .i64 fl, .bool odd, .slice a len cap, .int .i64 p, .int .u32 (x : Nat)]] w fun e w' => e = .returned (.bool true) ∧ Hid (Two w0 w' L (dackS s)) := by
  have P0 := h.ph #[.int .i64 10, .int .i64 N, .int .i64 fl, .bool odd, .slice a len cap, .int .i64 p, .int .u32 (x : Nat)] hr hl
  obtain ⟨V, rv, _⟩ := P0.ref
  have hFr := frameN_any L.e L.r L.q L.n L.mx L.P V s 10 N fl odd a len cap bs p x (w.alloc (.cells #[.int .i64 10, .int .i64 N, .int .i64 fl, .bool odd, .slice a len cap, .int .i64 p, .int .u32 (x : Nat)] 49)) rv P0.row (fun y hy h0 => by
    obtain ⟨U', V', T⟩ := P0.bt
    have := hl y hy h0; have := T.bel.size; omega) hss (by omega)
  have HP : Hid (_) := P0
  clear h hr hl hss P0 rv
  go_enter Tryz.func23, Tryz.ntmps23
  go_wp2_with (go_at_call 22; refine hFr.mono ?_; rintro e w2 ⟨rfl, b2⟩; have P2 := HP.out.below b2; have c0 : w2.cell? ⟨w.heap.size, 0, none⟩ = some (.int .i64 10) := cell_of_row w2 _ 0 _ _ _ P2.bx; have H2 : Hid (_) := P2; clear P2 b2 hFr HP)
  have cA := fun t wx (hx : Ph w0 wx L s t w.heap.size #[.int .i64 10, .int .i64 N, .int .i64 fl, .bool odd, .slice a len cap, .int .i64 p, .int .u32 (x : Nat)] a len cap bs) => (by
    obtain ⟨U, hd, hk⟩ := hx.dev
    refine (dvack_any L.d L.m L.g L.n L.mx L.P U s wx hd).mono ?_
    rintro e w' ⟨rfl, h5⟩
    obtain ⟨U', g5, x5⟩ := h5.out
    exact ⟨rfl, hk U' w' _ g5 x5⟩ : Calls Tryz.prog 68 #[.pointer (some ⟨L.d, 0, none⟩)] wx fun e w' => e = .returned (.int .i64 (dackE s)) ∧ Ph w0 w' L (dackS s) t w.heap.size #[.int .i64 10, .int .i64 N, .int .i64 fl, .bool odd, .slice a len cap, .int .i64 p, .int .u32 (x : Nat)] a len cap bs)
  have cB := fun t wx (hx : Ph w0 wx L t s w.heap.size #[.int .i64 10, .int .i64 N, .int .i64 fl, .bool odd, .slice a len cap, .int .i64 p, .int .u32 (x : Nat)] a len cap bs) => (by
    obtain ⟨U, hd, hk⟩ := hx.ref
    refine (rvack_any L.e L.r L.q L.n L.mx L.P U s wx hd).mono ?_
    rintro e w' ⟨rfl, h5⟩
    obtain ⟨U', g5, x5⟩ := h5.out
    exact ⟨rfl, hk U' w' _ g5 x5⟩ : Calls Tryz.prog 69 #[.pointer (some ⟨L.e, 0, none⟩)] wx fun e w' => e = .returned (.int .i64 (dackE s)) ∧ Ph w0 w' L t (dackS s) w.heap.size #[.int .i64 10, .int .i64 N, .int .i64 fl, .bool odd, .slice a len cap, .int .i64 p, .int .u32 (x : Nat)] a len cap bs)
  refine (cA _ _ H2.out).mono ?_
  rintro e w3 ⟨rfl, h3⟩
  have H3 : Hid (_) := h3
  have cC := cB _ _ h3
  clear cA cB H2 c0 h3
  go_wp2_with fail
  refine cC.mono ?_
  rintro e w4 ⟨rfl, h4⟩
  clear cC H3
  have H4 : Hid (_) := h4
  clear h4
  go_wp2_with fail
  go_ret
  exact ⟨by simp, H4.out.two⟩
set_option maxHeartbeats 6400000 in
theorem step12_any (w0 w : World) (L : Pl) (s : Sd) (N fl : Int) (odd : Bool) (a : Option Addr) (len cap : Nat) (bs : Nat → Nat) (p : Int) (x : Nat) (h : Two w0 w L s) (hr : Row8 w a len cap bs) (hl : ∀ y, a = some y → 0 < len → y.block < w0.heap.size) (hss : s.ss < 4294967296) (hN : N ≤ 9223372036854775807) :
    Calls Tryz.prog 23 #[.pointer (some ⟨L.d, 0, none⟩), .pointer (some ⟨L.m, 0, none⟩), .pointer (some ⟨L.e, 0, none⟩), .agg #[.int .i64 12, .int .i64 N, .int .i64 fl, .bool odd, .slice a len cap, .int .i64 p, .int .u32 (x : Nat)]] w fun e w' => e = .returned (.bool true) ∧ Hid (Two w0 w' L { s with ms := arS s.ms N }) := by
  have P0 := h.ph #[.int .i64 12, .int .i64 N, .int .i64 fl, .bool odd, .slice a len cap, .int .i64 p, .int .u32 (x : Nat)] hr hl
  obtain ⟨V, rv, _⟩ := P0.ref
  have hFr := frameN_any L.e L.r L.q L.n L.mx L.P V s 12 N fl odd a len cap bs p x (w.alloc (.cells #[.int .i64 12, .int .i64 N, .int .i64 fl, .bool odd, .slice a len cap, .int .i64 p, .int .u32 (x : Nat)] 49)) rv P0.row (fun y hy h0 => by
    obtain ⟨U', V', T⟩ := P0.bt
    have := hl y hy h0; have := T.bel.size; omega) hss (by omega)
  have HP : Hid (_) := P0
  have HB : Hid (_) := hN
  clear hN
  clear h hr hl hss P0 rv
  go_enter Tryz.func23, Tryz.ntmps23
  go_wp2_with (go_at_call 22; refine hFr.mono ?_; rintro e w2 ⟨rfl, b2⟩; have P2 := HP.out.below b2; have c0 : w2.cell? ⟨w.heap.size, 0, none⟩ = some (.int .i64 12) := cell_of_row w2 _ 0 _ _ _ P2.bx; have c1 : w2.cell? ⟨w.heap.size, 1, none⟩ = some (.int .i64 N) := cell_of_row w2 _ 1 _ _ _ P2.bx; have H2 : Hid (_) := P2; clear P2 b2 hFr HP)
  clear c0
  have cA := fun t wx (hx : Ph w0 wx L s t w.heap.size #[.int .i64 12, .int .i64 N, .int .i64 fl, .bool odd, .slice a len cap, .int .i64 p, .int .u32 (x : Nat)] a len cap bs) => (by
    obtain ⟨U, hd, hk⟩ := hx.dev
    refine (dvarm_any L.d L.m L.g L.n L.mx L.P U s N wx hd HB.out).mono ?_
    rintro e w' ⟨rfl, h5⟩
    obtain ⟨U', g5, x5⟩ := h5.out
    exact ⟨rfl, hk U' w' _ g5 x5⟩ : Calls Tryz.prog 72 #[.pointer (some ⟨L.m, 0, none⟩), .int .i64 N] wx fun e w' => e = .returned (.int .i64 (arE N)) ∧ Ph w0 w' L { s with ms := arS s.ms N } t w.heap.size #[.int .i64 12, .int .i64 N, .int .i64 fl, .bool odd, .slice a len cap, .int .i64 p, .int .u32 (x : Nat)] a len cap bs)
  have cB := fun t wx (hx : Ph w0 wx L t s w.heap.size #[.int .i64 12, .int .i64 N, .int .i64 fl, .bool odd, .slice a len cap, .int .i64 p, .int .u32 (x : Nat)] a len cap bs) => (by
    obtain ⟨U, hd, hk⟩ := hx.ref
    refine (rvarm_any L.e L.r L.q L.n L.mx L.P U s N wx hd HB.out).mono ?_
    rintro e w' ⟨rfl, h5⟩
    obtain ⟨U', g5, x5⟩ := h5.out
    exact ⟨rfl, hk U' w' _ g5 x5⟩ : Calls Tryz.prog 73 #[.pointer (some ⟨L.r, 0, none⟩), .int .i64 N] wx fun e w' => e = .returned (.int .i64 (arE N)) ∧ Ph w0 w' L t { s with ms := arS s.ms N } w.heap.size #[.int .i64 12, .int .i64 N, .int .i64 fl, .bool odd, .slice a len cap, .int .i64 p, .int .u32 (x : Nat)] a len cap bs)
  have P1 : Hid (_) := H2.out.drew
  have HS : w2.drew.cell? ⟨w.heap.size, 1, none⟩ = some (.int .i64 N) ∧ w2.drew.cell? ⟨L.e, 5, none⟩ = some (.pointer (some ⟨L.r, 0, none⟩)) := ⟨cell_of_row w2.drew _ 1 _ _ _ P1.out.bx, P1.out.mem5⟩
  clear c1 H2
  obtain ⟨s2, hs2⟩ : ∃ S, { s with ms := arS s.ms N } = S := ⟨_, rfl⟩
  obtain ⟨r, hr2⟩ : ∃ S, (arE N) = S := ⟨_, rfl⟩
  rw [hs2, hr2] at cA cB
  have HE : Hid (_) := hs2
  clear hs2 hr2
  go_region_held3 (fun w' => w'.cell? ⟨w.heap.size, 1, none⟩ = some (.int .i64 N) ∧ w'.cell? ⟨L.e, 5, none⟩ = some (.pointer (some ⟨L.r, 0, none⟩))) (assumption) (first
    | (go_at_call 72; (first | refine (cA _ _ h1.out).mono ?_ | refine (cA _ _ P1.out).mono ?_); rintro e w1 ⟨rfl, h2⟩; have HT : w1.cell? ⟨w.heap.size, 1, none⟩ = some (.int .i64 N) ∧ w1.cell? ⟨L.e, 5, none⟩ = some (.pointer (some ⟨L.r, 0, none⟩)) := ⟨cell_of_row w1 _ 1 _ _ _ h2.bx, h2.mem5⟩; have h1 : Hid (_) := h2; clear h2)
    | (go_at_call 73; (first | refine (cB _ _ h1.out).mono ?_ | refine (cB _ _ P1.out).mono ?_); rintro e w1 ⟨rfl, h2⟩; have HT : w1.cell? ⟨w.heap.size, 1, none⟩ = some (.int .i64 N) ∧ w1.cell? ⟨L.e, 5, none⟩ = some (.pointer (some ⟨L.r, 0, none⟩)) := ⟨cell_of_row w1 _ 1 _ _ _ h2.bx, h2.mem5⟩; have h1 : Hid (_) := h2; clear h2))
  all_goals
    go_wp2_with fail
    go_ret
    rw [HE.out]
    exact ⟨by simp, h1.out.two⟩
end Go.Proofs.YtpgdghjlfdehjaaGreat
namespace Go.Proofs.YtpgdghjlfdehjaaGreat
set_option maxRecDepth 100000
open Go.RowKit
theorem step_append8L {ops : Array Oper} {o : Oper} {a : Act} {w : World} {K : Act → World → Prop} {Q : Exit → Act → World → Prop} {E : Prop}
    (hg : o.guard = none) (s x : Operand) (hop : o.op = Op.call { callee := Callee.builtin Builtin.append, args := #[s, x], argTypes := #[42, 42] })
    (B : Nat) (v : Value) (hs : a.eval s = v) (hown : w.ownsRow B 5 1 v 0 [])
    (ao : Option Addr) (m c : Nat) (bs : Nat → Nat) (hx : a.eval x = .slice ao m c) (hrow : Row8 w ao m c bs) (hm : m ≤ 140737488351232)
    (w0 : World) (hb : Below B w0 w) (hB0 : B ≤ w0.heap.size)
    (hK : ∀ a' c' w', Hid (w'.ownsRow B 5 1 (.slice a' m c') m (CB bs m)) → Below B w0 w' → K (a.put o.dst (.slice a' m c')) w') :
    if Region.wanted o (yielded ops a.tmps) = true then Oper.wp Tryz.prog o a w K Q else E := by
  obtain ⟨i0, hi, hz0, hz1, hz2⟩ := info_parts info_u8
  have hw : Region.wanted o (yielded ops a.tmps) = true := by simp [Region.wanted, hg]
  rw [if_pos hw]
  have hBw : B ≤ w.heap.size := Nat.le_trans hB0 hb.size
  have fin : ∀ v' w', w'.ownsRow B 5 1 v' m (CB bs m) → w.grownBy w' v.ownBlock → K (a.put o.dst v') w' := by
    intro v' w' h1 h2
    have h3 := hb.grown h2 hBw (fun j hj => (hown.lt j hj).1)
    obtain ⟨a', c', rfl, _⟩ := own_row8 h1 hrow.byte
    exact hK a' c' w' h1 h3
  cases ao with
  | none =>
    obtain ⟨rfl, rfl⟩ := hrow.nil rfl
    have hrun := run_append_owned_none (P := Tryz.prog) (w := w) B 42 o.type 5 i0 1 Tryz.underlying42 hi v 0 [] hown
    have hk := fin v w hown ⟨rfl, rfl, rfl, Nat.le_refl _, fun _ _ _ => rfl⟩
    unfold Oper.wp
    simp [execOp, hop, resolve, invoke, builtin, hs, hx, hrun, Result.andThen]
    exact hk
  | some ad =>
    refine wp_append_own w s x _ hop B 5 i0 (.int .u8 0) 1 1 Tryz.underlying42 hi hz0 hz1 hz2 rfl (by decide) v 0 [] hs hown ad m c (CB bs m) hx (by rw [CB_length, Nat.mul_one]) ?_ (CB_one bs m) (by unfold maxLen; omega) (by omega) hBw (fun v' w' h1 h2 _ => fin v' w' (by simpa using h1) h2)
    intro j u hj
    by_cases hlt : j < m
    · rw [CB_get bs m j hlt] at hj
      cases hj
      exact hrow.src ad rfl j hlt
    · rw [CB_none bs m j (by omega)] at hj; cases hj
theorem own0L (B : Nat) (w : World) (h : B ≤ w.heap.size) : (w.alloc (.cells #[] 5)).ownsRow B 5 1 (.slice (some ⟨w.heap.size, 0, none⟩) 0 0) 0 [] := World.ownsRow_made w #[] 0 h (Nat.zero_le _) rfl
theorem own0Ld (B : Nat) (w : World) (h : B ≤ w.heap.size) : (w.alloc (.cells #[] 5)).drew.ownsRow B 5 1 (.slice (some ⟨w.heap.size, 0, none⟩) 0 0) 0 [] := own0L B w h
set_option maxHeartbeats 6400000 in
theorem step9_any (w0 w : World) (L : Pl) (s : Sd) (N fl : Int) (odd : Bool) (a : Option Addr) (len cap : Nat) (bs : Nat → Nat) (p : Int) (x : Nat) (h : Two w0 w L s) (hr : Row8 w a len cap bs) (hl : ∀ y, a = some y → 0 < len → y.block < w0.heap.size) (hss : s.ss < 4294967296) (hlen : len ≤ 140737488351232) :
    Calls Tryz.prog 23 #[.pointer (some ⟨L.d, 0, none⟩), .pointer (some ⟨L.m, 0, none⟩), .pointer (some ⟨L.e, 0, none⟩), .agg #[.int .i64 9, .int .i64 N, .int .i64 fl, .bool odd, .slice a len cap, .int .i64 p, .int .u32 (x : Nat)]] w fun e w' => e = .returned (.bool true) ∧ Hid (Two w0 w' L (dwriteS L.P s len bs odd)) := by
  have P0 := h.ph #[.int .i64 9, .int .i64 N, .int .i64 fl, .bool odd, .slice a len cap, .int .i64 p, .int .u32 (x : Nat)] hr hl
  obtain ⟨V, rv, _⟩ := P0.ref
  have hFr := frameN_any L.e L.r L.q L.n L.mx L.P V s 9 N fl odd a len cap bs p x (w.alloc (.cells #[.int .i64 9, .int .i64 N, .int .i64 fl, .bool odd, .slice a len cap, .int .i64 p, .int .u32 (x : Nat)] 49)) rv P0.row (fun y hy h0 => by
    obtain ⟨U', V', T⟩ := P0.bt
    have := hl y hy h0; have := T.bel.size; omega) hss (by omega)
  have HP : Hid (_) := P0
  have HL : Hid (_) := hlen
  clear h hr hl hss P0 rv hlen
  go_enter Tryz.func23, Tryz.ntmps23
  go_wp2_with (go_at_call 22; refine hFr.mono ?_; rintro e w2 ⟨rfl, b2⟩; have P2 := HP.out.below b2; have c0 : w2.cell? ⟨w.heap.size, 0, none⟩ = some (.int .i64 9) := cell_of_row w2 _ 0 _ _ _ P2.bx; have H2 : Hid (_) := P2; clear P2 b2 hFr HP)
  clear c0
  have hbd := build0D
  have cA := fun t wx (hx : Ph w0 wx L s t w.heap.size #[.int .i64 9, .int .i64 N, .int .i64 fl, .bool odd, .slice a len cap, .int .i64 p, .int .u32 (x : Nat)] a len cap bs) a' c' (hr' : Row8 wx a' len c' bs) => (by
    obtain ⟨U, hd, hk⟩ := hx.dev
    refine (dvwrite_any L.d L.m L.g L.n L.mx L.P U s a' len c' bs odd wx hd hr').mono ?_
    rintro e w' ⟨rfl, h5⟩
    obtain ⟨U', g5, x5⟩ := h5.out
    exact ⟨rfl, hk U' w' _ g5 x5⟩ : Calls Tryz.prog 26 #[.pointer (some ⟨L.d, 0, none⟩), .slice a' len c', .bool odd] wx fun e w' => e = .returned (.int .i64 (dwriteE L.P s len)) ∧ Ph w0 w' L (dwriteS L.P s len bs odd) t w.heap.size #[.int .i64 9, .int .i64 N, .int .i64 fl, .bool odd, .slice a len cap, .int .i64 p, .int .u32 (x : Nat)] a len cap bs)
  have cB := fun t wx (hx : Ph w0 wx L t s w.heap.size #[.int .i64 9, .int .i64 N, .int .i64 fl, .bool odd, .slice a len cap, .int .i64 p, .int .u32 (x : Nat)] a len cap bs) => (by
    obtain ⟨U, hd, hk⟩ := hx.ref
    refine (rvwrite_any L.e L.r L.q L.n L.mx L.P U s a len cap bs odd wx hd hx.row).mono ?_
    rintro e w' ⟨rfl, h5⟩
    obtain ⟨U', g5, x5⟩ := h5.out
    exact ⟨rfl, hk U' w' _ g5 x5⟩ : Calls Tryz.prog 27 #[.pointer (some ⟨L.e, 0, none⟩), .slice a len cap, .bool odd] wx fun e w' => e = .returned (.int .i64 (dwriteE L.P s len)) ∧ Ph w0 w' L t (dwriteS L.P s len bs odd) w.heap.size #[.int .i64 9, .int .i64 N, .int .i64 fl, .bool odd, .slice a len cap, .int .i64 p, .int .u32 (x : Nat)] a len cap bs)
  have HSall : ∀ wx, Below w2.heap.size w2 wx → wx.cell? ⟨w.heap.size, 3, none⟩ = some (.bool odd) ∧ wx.cell? ⟨w.heap.size, 4, none⟩ = some (.slice a len cap) := fun wx b => ⟨cell_of_row wx _ 3 _ _ _ (H2.out.below b).bx, cell_of_row wx _ 4 _ _ _ (H2.out.below b).bx⟩
  have hRw : ∀ wx, Below w2.heap.size w2 wx → Row8 wx a len cap bs := fun wx b => H2.out.row.below b
  have HS := HSall w2.drew (Below.drew (Below.refl _ _))
  obtain ⟨s2, hs2⟩ : ∃ S, dwriteS L.P s len bs odd = S := ⟨_, rfl⟩
  obtain ⟨r, hr2⟩ : ∃ S, dwriteE L.P s len = S := ⟨_, rfl⟩
  rw [hs2, hr2] at cA cB
  have HE : Hid (_) := hs2
  have hlen := HL.out
  clear hs2 hr2
  go_region_held3 (fun w' => w'.cell? ⟨w.heap.size, 3, none⟩ = some (.bool odd) ∧ w'.cell? ⟨w.heap.size, 4, none⟩ = some (.slice a len cap)) (first | with_reducible assumption | exact HSall _ (by repeat (first | with_reducible assumption | with_reducible refine below_drewN ?_ _ | with_reducible refine Below.drew ?_ | with_reducible refine belowA ?_ _ | with_reducible exact Below.refl _ _))) (first
    | (refine step_append8L rfl (.tmp 62) (.tmp 64) rfl w2.heap.size _ rfl (by first | exact own0L _ _ (Nat.le_refl _) | exact own0Ld _ _ (Nat.le_refl _)) a len cap bs rfl (hRw _ (by repeat (first | with_reducible assumption | with_reducible refine below_drewN ?_ _ | with_reducible refine Below.drew ?_ | with_reducible refine belowA ?_ _ | with_reducible exact Below.refl _ _))) hlen w2 (by repeat (first | with_reducible assumption | with_reducible refine below_drewN ?_ _ | with_reducible refine Below.drew ?_ | with_reducible refine belowA ?_ _ | with_reducible exact Below.refl _ _)) (Nat.le_refl _) ?_; intro a3 c3 w3 H3 b3; have cC := cA _ w3 (H2.out.below b3) a3 c3 (own_slice8 H3.out H2.out.row.byte))
    | (go_at_call 26; refine cC.mono ?_; rintro e w4 ⟨rfl, h4⟩; have HT4 : w4.cell? ⟨w.heap.size, 3, none⟩ = some (.bool odd) ∧ w4.cell? ⟨w.heap.size, 4, none⟩ = some (.slice a len cap) := ⟨cell_of_row w4 _ 3 _ _ _ h4.bx, cell_of_row w4 _ 4 _ _ _ h4.bx⟩; have cD := cB _ w4 h4)
    | (go_at_call 27; refine cD.mono ?_; rintro e w5 ⟨rfl, h5⟩; have HT5 : w5.cell? ⟨w.heap.size, 3, none⟩ = some (.bool odd) ∧ w5.cell? ⟨w.heap.size, 4, none⟩ = some (.slice a len cap) := ⟨cell_of_row w5 _ 3 _ _ _ h5.bx, cell_of_row w5 _ 4 _ _ _ h5.bx⟩; have H5 : Hid (_) := h5; clear h5))
  all_goals
    go_wp2_with fail
    go_ret
    rw [HE.out]
    exact ⟨by simp, H5.out.two⟩
end Go.Proofs.YtpgdghjlfdehjaaGreat
namespace Go.Proofs.YtpgdghjlfdehjaaGreat
set_option maxRecDepth 100000
open Go.RowKit
def Osx (L : Pl) (s : Sd) (K N fl : Int) (odd : Bool) (len : Nat) (bs : Nat → Nat) (x : Nat) (s' : Sd) : Prop :=
  (1 ≤ K ∧ K ≤ 7 → ∃ f : Fm, (∀ i, i < f.1 → f.2 i < 256) ∧ Fo L.P s K N fl odd len bs x f ∧ s' = (drecv L.P L.mx L.n s f.1 f.2).s) ∧ (K = 8 → s' = dtickS L.P s N) ∧ (K = 9 → s' = dwriteS L.P s len bs odd) ∧ (K = 10 → s' = dackS s) ∧
  (K = 11 → s' = dresetS L.mx L.n s N) ∧ (K = 12 → s' = { s with ms := arS s.ms N }) ∧ (¬ (1 ≤ K ∧ K ≤ 12) → s' = s)
theorem Two.mo {w0 w : World} {L : Pl} {s : Sd} (h : Two w0 w L s) : Mo L.mx L.n s ∧ Pok L.P ∧ (∀ i, i < L.P.i → s.ap i < 256) ∧ Below w0.heap.size w0 w := by
  obtain ⟨U, V, T⟩ := h
  obtain ⟨B, y⟩ := id T.dv
  exact ⟨Mo.of T.dv, y.pok, y.apb, T.bel⟩
theorem step_op (w0 w : World) (L : Pl) (s : Sd) (K N fl : Int) (odd : Bool) (a : Option Addr) (len cap : Nat) (bs : Nat → Nat) (p : Int) (x : Nat) (h : Two w0 w L s) (hr : Row8 w a len cap bs) (hl : ∀ y, a = some y → 0 < len → y.block < w0.heap.size) (hx : x < 4294967296) (hlen : len ≤ 140737488351232) (hN : N ≤ 9223372036854775807) (hv : Iv L.P s) (hL : s.L.length < 800000) (ht : s.ms.t < 9223372036854774000) :
    Calls Tryz.prog 23 #[.pointer (some ⟨L.d, 0, none⟩), .pointer (some ⟨L.m, 0, none⟩), .pointer (some ⟨L.e, 0, none⟩), .agg #[.int .i64 K, .int .i64 N, .int .i64 fl, .bool odd, .slice a len cap, .int .i64 p, .int .u32 (x : Nat)]] w fun e w' => e = .returned (.bool true) ∧ Hid (∃ s', Two w0 w' L s' ∧ Iv L.P s' ∧ Gw s s' ∧ Osx L s K N fl odd len bs x s') := by
  obtain ⟨M, hP, _, _⟩ := h.mo
  by_cases h7 : 1 ≤ K ∧ K ≤ 7
  · refine (step_recv w0 w L s K N fl odd a len cap bs p x h hr hl h7 hx hlen hv hL ht).mono ?_
    rintro e w' ⟨rfl, h5⟩
    obtain ⟨f, y, fo, T⟩ := h5.out
    exact ⟨rfl, _, T, hv.recv hP M f.1 f.2, gw_recv M f.1 f.2, fun _ => ⟨f, y, fo, rfl⟩, fun e => by omega, fun e => by omega, fun e => by omega, fun e => by omega, fun e => by omega, fun e => by omega⟩
  · by_cases h12 : 1 ≤ K ∧ K ≤ 12
    · have : K = 8 ∨ K = 9 ∨ K = 10 ∨ K = 11 ∨ K = 12 := by omega
      rcases this with rfl | rfl | rfl | rfl | rfl
      · refine (step8_any w0 w L s N fl odd a len cap bs p x h hr hl hv.ss hN hL).mono ?_
        rintro e w' ⟨rfl, h5⟩
        exact ⟨rfl, _, h5.out, hv.tick N, gw_tick N, fun e => by omega, fun _ => rfl, fun e => by omega, fun e => by omega, fun e => by omega, fun e => by omega, fun e => by omega⟩
      · refine (step9_any w0 w L s N fl odd a len cap bs p x h hr hl hv.ss hlen).mono ?_
        rintro e w' ⟨rfl, h5⟩
        exact ⟨rfl, _, h5.out, hv.write len bs odd, gw_write len bs odd, fun e => by omega, fun e => by omega, fun _ => rfl, fun e => by omega, fun e => by omega, fun e => by omega, fun e => by omega⟩
      · refine (step10_any w0 w L s N fl odd a len cap bs p x h hr hl hv.ss).mono ?_
        rintro e w' ⟨rfl, h5⟩
        exact ⟨rfl, _, h5.out, hv.ack, gw_ack, fun e => by omega, fun e => by omega, fun e => by omega, fun _ => rfl, fun e => by omega, fun e => by omega, fun e => by omega⟩
      · refine (step11_any w0 w L s N fl odd a len cap bs p x h hr hl hv.ss hN ht).mono ?_
        rintro e w' ⟨rfl, h5⟩
        exact ⟨rfl, _, h5.out, hv.reset N, gw_reset M N, fun e => by omega, fun e => by omega, fun e => by omega, fun e => by omega, fun _ => rfl, fun e => by omega, fun e => by omega⟩
      · refine (step12_any w0 w L s N fl odd a len cap bs p x h hr hl hv.ss hN).mono ?_
        rintro e w' ⟨rfl, h5⟩
        exact ⟨rfl, _, h5.out, hv.arm N, gw_arm N, fun e => by omega, fun e => by omega, fun e => by omega, fun e => by omega, fun e => by omega, fun _ => rfl, fun e => by omega⟩
    · refine (stepN_any w0 w L s K N fl odd a len cap bs p x h hr hl hv.ss h12).mono ?_
      rintro e w' ⟨rfl, h5⟩
      exact ⟨rfl, _, h5.out, hv, ⟨by omega, by omega⟩, fun e => absurd e h7, fun e => by omega, fun e => by omega, fun e => by omega, fun e => by omega, fun e => by omega, fun _ => rfl⟩
theorem two_made {w0 w w1 w2 : World} {L : Pl} {s : Sd} {U V : List Nat} (bel : Below w0.heap.size w0 w) (o1 : Off [L.m, L.g] w w1) (D : DV w1 L.d L.m L.g L.n L.mx L.P U s) (hU : ∀ k, k ∈ U → k = L.m ∨ k = L.g ∨ w.heap.size ≤ k)
    (o2 : Off [L.r, L.q] w1 w2) (R : RW w2 L.e L.r L.q L.n L.mx L.P V s) (hV : ∀ k, k ∈ V → k = L.r ∨ k = L.q ∨ w1.heap.size ≤ k) (h0 : w0.heap.size ≤ L.m ∧ w0.heap.size ≤ L.g ∧ w0.heap.size ≤ L.r ∧ w0.heap.size ≤ L.q)
    (hne : L.m ≠ L.r ∧ L.m ≠ L.q ∧ L.g ≠ L.r ∧ L.g ≠ L.q) (hlt : L.r < w.heap.size ∧ L.q < w.heap.size) (hK : L.K = []) : Two w0 w2 L s := by
  have s1 := o1.size
  have sb := bel.size
  have b1 : Below w0.heap.size w0 w1 := o1.below bel (by simp; omega) bel.size
  have hUr : ∀ k, k ∈ U → k ∉ [L.r, L.q] := fun k hk hm => by
    have := hU k hk
    simp at hm
    omega
  refine ⟨U, V, o2.below b1 (by simp; omega) b1.size, D.off o2 hUr, R, fun k hk => ⟨?_, fun hm => ?_⟩, fun k hk => ?_, fun k hk => by simp at hk, fun x hx => by rw [hK] at hx; simp at hx⟩
  · have := hU k hk; omega
  · have h1 := hU k hk
    have h2 := hV k hm
    have h3 := D.ult k hk
    omega
  · have := hV k hk; omega
end Go.Proofs.YtpgdghjlfdehjaaGreat
