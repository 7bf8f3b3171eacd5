/- step on both: a frame that is received, the call's bytes wherever they lie. -/
import Derived.Test.YtmleiemlfogffaaGreatPkA41
namespace Go.Proofs.YtmleiemlfogffaaGreat
set_option maxRecDepth 100000
open Go.RowKit
set_option maxHeartbeats 6400000 in
theorem step_recvN (w0 w : World) (L : Pl) (s : Sd) (K N fl : Int) (odd : Bool) (a : Option Addr) (len cap : Nat) (bs : Nat → Nat) (p : Int) (x : Nat) (h : Two w0 w L s) (hr : Row8 w a len cap bs) (hl : ∀ y, a = some y → 0 < len → y.block < w.heap.size) (hk : 1 ≤ K ∧ K ≤ 7) (hx : x < 4294967296) (hlen : len ≤ 140737488351232) (hv : Iv L.P s) (hL : s.L.length < 800000) (ht : s.ms.t < 9223372036854774000) :
    Calls Tryz.prog 15 #[.pointer (some ⟨L.d, 0, none⟩), .pointer (some ⟨L.m, 0, none⟩), .pointer (some ⟨L.e, 0, none⟩), .agg #[.int .i64 K, .int .i64 N, .int .i64 fl, .bool odd, .slice a len cap, .int .i64 p, .int .u32 (x : Nat)]] w fun e w' => e = .returned (.bool true) ∧ Hid (∃ f, (∀ i, i < f.1 → f.2 i < 256) ∧ Fo L.P s K N fl odd len bs f ∧ Two w0 w' L (drecv L.P L.mx L.n s f.1 f.2).s) := by
  obtain ⟨i0, hi, hz0, hz1, hz2⟩ := info_parts info_u8
  have hbd := build0D
  obtain ⟨U, V, T⟩ := h
  have b0 : Below w.heap.size w (w.alloc (.cells #[.int .i64 K, .int .i64 N, .int .i64 fl, .bool odd, .slice a len cap, .int .i64 p, .int .u32 (x : Nat)] 44)) := (Below.refl _ _).alloc (Nat.le_refl _) _
  have T1 := T.below b0
  have hFr := frame_op L.e L.r L.q L.n L.mx L.P V s K N fl odd a len cap bs p x _ T1.rw (hr.below b0) (fun y hy h0 => Nat.lt_of_lt_of_le (hl y hy h0) b0.size) hv.ss hx hlen hk
  have hP : Pok L.P := by obtain ⟨B, y⟩ := T.dv; exact y.pok
  have hap : ∀ i, i < L.P.i → s.ap i < 256 := by obtain ⟨B, y⟩ := T.dv; exact y.apb
  have H0 : Hid (_) := And.intro T1 (And.intro hv (And.intro hL (And.intro ht (And.intro hP hap))))
  clear T b0 T1 hr hl hk hx hlen hv hL ht hP hap
  go_enter Tryz.func15, Tryz.ntmps15
  go_wp2_with fail
  refine hFr.mono ?_
  rintro e w2 ⟨v, rfl, h2⟩
  generalize w.alloc (.cells #[.int .i64 K, .int .i64 N, .int .i64 fl, .bool odd, .slice a len cap, .int .i64 p, .int .u32 (x : Nat)] 44) = w1 at *
  obtain ⟨b2, f, F2, y2, l2, fo2⟩ := h2.out
  obtain ⟨av, cv, rfl, rv⟩ := F2.row y2
  have T2 := H0.out.1.below b2
  have hfar : ∀ y, av = some y → w1.heap.size ≤ y.block := fun y hy => (own_far F2 y hy).1
  have hbelA : Below w2.heap.size w2 (w2.alloc (.cells #[] 5)) := (Below.refl _ _).alloc (Nat.le_refl _) _
  have R0 := rv.below hbelA
  have O0 := own0D w2.heap.size f.2 w2 (Nat.le_refl _)
  have hszA := hbelA.size
  have H2 : Hid (_) := And.intro T2 (And.intro rv (And.intro y2 (And.intro fo2 hfar)))
  clear hFr h2 b2 F2 T2 rv y2 fo2 hfar
  go_wp2_with (at_builtin; refine wpList_append_row8 rfl (.tmp 24) (.tmp 25) 25 rfl w2.heap.size 5 i0 (.int .u8 0) Tryz.underlying25 hi hz0 hz1 hz2 rfl _ 0 _ rfl O0 av f.1 cv f.2 rfl R0 (by unfold maxLen; omega) (by omega) hszA ?_)
  intro v3 w3 hown3 hgrow3
  have b3 : Below w2.heap.size w2 w3 := hbelA.grown hgrow3 hszA (fun k hk => (O0.lt k hk).1)
  rw [show CB f.2 0 = [] from rfl, List.nil_append] at hown3
  have own3 : w3.ownsRow w2.heap.size 5 1 v3 f.1 (CB f.2 f.1) := by simpa using hown3
  obtain ⟨T2, rv, y2, fo2, hfar⟩ := H2.out
  obtain ⟨T1, hv, hL, ht, hP, hap⟩ := H0.out
  obtain ⟨a3, c3, rfl, r3⟩ := own_row8 own3 y2
  have T3 := T2.below b3
  have rv3 := rv.below b3
  have hRc := receive4_any L.d L.m L.g L.n L.mx L.P U s a3 f.1 c3 f.2 w3 T3.dv r3 (hv.sent hP) hv.od hL ht
  have hby := drecv_byte L.P L.mx L.n s hap f.1 f.2
  have hRF : ∀ w4 U4, Gr U w3 U4 w4 → DV w4 L.d L.m L.g L.n L.mx L.P U4 (drecv L.P L.mx L.n s f.1 f.2).s → Bt w0 w4 L (drecv L.P L.mx L.n s f.1 f.2).s s [] U4 V ∧ Calls Tryz.prog 45 #[.pointer (some ⟨L.e, 0, none⟩), .slice av f.1 cv] w4 fun e w' => ∃ v, e = .returned (.tuple #[v, .int .i64 (drecv L.P L.mx L.n s f.1 f.2).e]) ∧ Hid (OutR V w4 w' L.e L.r L.q L.n L.mx L.P (drecv L.P L.mx L.n s f.1 f.2).s (drecv L.P L.mx L.n s f.1 f.2).f v) := by
    intro w4 U4 g4 x4
    have T4 := T3.dev g4 x4
    refine ⟨T4, rreceive_any L.e L.r L.q L.n L.mx L.P V s av f.1 cv f.2 w4 T4.rw (rv3.off g4.off (fun y hy hm => ?_)) (hv.sent hP) hv.od hL ht hv.ss⟩
    have := hfar y hy
    have := T1.dv.ult _ hm
    omega
  have HR : Hid (_) := hRF
  clear hRF
  have H3 : Hid (_) := And.intro T3 (And.intro hby (And.intro y2 fo2))
  generalize hRR : drecv L.P L.mx L.n s f.1 f.2 = R at *
  have HRR : Hid (_) := hRR
  clear hRR
  clear hown3 hgrow3 b3 own3 T2 rv y2 fo2 hfar T1 hv hL ht hP hap r3 T3 rv3 O0 R0 hbelA hszA H0 H2 hby l2 hbd
  go_wp2_with fail
  refine hRc.mono ?_
  rintro e w4 ⟨vx, rfl, h4⟩
  obtain ⟨U4, g4, x4, fx, kx⟩ := h4.out
  obtain ⟨T4, hR2⟩ := HR.out w4 U4 g4 x4
  obtain ⟨ax, cx, rfl, _⟩ := fx.row H3.out.2.1
  have H4 : Hid (_) := And.intro T4 (And.intro fx (And.intro H3.out g4.off.size))
  clear hRc h4 g4 x4 fx kx HR T4 H3
  go_wp2_with fail
  refine hR2.mono ?_
  rintro e w5 ⟨vy, rfl, h5⟩
  obtain ⟨T4, fx, ⟨T3, hby, y2, fo2⟩, hs4⟩ := H4.out
  obtain ⟨V5, g5, x5, fy, ky⟩ := h5.out
  have T5 := T4.ref g5 x5
  have fx5 : Fr w5 w3.heap.size (.slice ax R.f.1 cx) R.f := own_offk fx g5.off (fun k hk hm => by
    have := fx.ge k hk
    have := T3.rw.ult k hm
    omega)
  obtain ⟨ax', cx', ex, rx⟩ := fx5.row hby
  simp only [Value.slice.injEq, true_and] at ex
  obtain ⟨rfl, rfl⟩ := ex
  obtain ⟨ay, cy, rfl, ry⟩ := fy.row hby
  have q1 := conv_any ax R.f.1 cx R.f.2 w5 rx
  have q2 := conv_any ay R.f.1 cy R.f.2 w5 ry
  obtain ⟨X, hX⟩ : ∃ X, BA R.f.2 R.f.1 = X := ⟨_, rfl⟩
  rw [hX] at q1 q2
  have H5 : Hid (_) := And.intro y2 (And.intro fo2 T5)
  clear hR2 h5 T4 fx T3 hby y2 fo2 hs4 g5 x5 fy ky T5 fx5 rx ry hX H4
  go_wp2_with fail
  go_ret
  exact ⟨by simp, f, H5.out.1, H5.out.2.1, U4, V5, by rw [HRR.out]; exact H5.out.2.2⟩
set_option maxHeartbeats 6400000 in
theorem step_recvF (F : List Nat) (w0 w : World) (L : Pl) (s : Sd) (K N fl : Int) (odd : Bool) (a : Option Addr) (len cap : Nat) (bs : Nat → Nat) (p : Int) (x : Nat) (h : ∃ U V, Bt w0 w L s s F U V) (hr : Row8 w a len cap bs) (hl : ∀ y, a = some y → 0 < len → y.block < w.heap.size) (hk : 1 ≤ K ∧ K ≤ 7) (hx : x < 4294967296) (hlen : len ≤ 140737488351232) (hv : Iv L.P s) (hL : s.L.length < 800000) (ht : s.ms.t < 9223372036854774000) :
    Calls Tryz.prog 15 #[.pointer (some ⟨L.d, 0, none⟩), .pointer (some ⟨L.m, 0, none⟩), .pointer (some ⟨L.e, 0, none⟩), .agg #[.int .i64 K, .int .i64 N, .int .i64 fl, .bool odd, .slice a len cap, .int .i64 p, .int .u32 (x : Nat)]] w fun e w' => e = .returned (.bool true) ∧ Hid (∃ f, (∀ i, i < f.1 → f.2 i < 256) ∧ Fo L.P s K N fl odd len bs f ∧ (∃ U V, Bt w0 w' L (drecv L.P L.mx L.n s f.1 f.2).s (drecv L.P L.mx L.n s f.1 f.2).s F U V) ∧ ∀ k, k ∈ F → w'.heap[k]? = w.heap[k]?) := by
  obtain ⟨i0, hi, hz0, hz1, hz2⟩ := info_parts info_u8
  have hbd := build0D
  obtain ⟨U, V, T⟩ := h
  have b0 : Below w.heap.size w (w.alloc (.cells #[.int .i64 K, .int .i64 N, .int .i64 fl, .bool odd, .slice a len cap, .int .i64 p, .int .u32 (x : Nat)] 44)) := (Below.refl _ _).alloc (Nat.le_refl _) _
  have T1 := T.below b0
  have HK1 : Hid (∀ k, k ∈ F → (w.alloc (.cells #[.int .i64 K, .int .i64 N, .int .i64 fl, .bool odd, .slice a len cap, .int .i64 p, .int .u32 (x : Nat)] 44)).heap[k]? = w.heap[k]?) := fun k hk => b0.block k (T.fr k hk).1
  have hFr := frame_op L.e L.r L.q L.n L.mx L.P V s K N fl odd a len cap bs p x _ T1.rw (hr.below b0) (fun y hy h0 => Nat.lt_of_lt_of_le (hl y hy h0) b0.size) hv.ss hx hlen hk
  have hP : Pok L.P := by obtain ⟨B, y⟩ := T.dv; exact y.pok
  have hap : ∀ i, i < L.P.i → s.ap i < 256 := by obtain ⟨B, y⟩ := T.dv; exact y.apb
  have H0 : Hid (_) := And.intro T1 (And.intro hv (And.intro hL (And.intro ht (And.intro hP hap))))
  clear T b0 T1 hr hl hk hx hlen hv hL ht hP hap
  go_enter Tryz.func15, Tryz.ntmps15
  go_wp2_with fail
  refine hFr.mono ?_
  rintro e w2 ⟨v, rfl, h2⟩
  generalize w.alloc (.cells #[.int .i64 K, .int .i64 N, .int .i64 fl, .bool odd, .slice a len cap, .int .i64 p, .int .u32 (x : Nat)] 44) = w1 at *
  obtain ⟨b2, f, F2, y2, l2, fo2⟩ := h2.out
  obtain ⟨av, cv, rfl, rv⟩ := F2.row y2
  have T2 := H0.out.1.below b2
  have HK2 : Hid (∀ k, k ∈ F → w2.heap[k]? = w.heap[k]?) := fun k hk => (b2.block k (H0.out.1.fr k hk).1).trans (HK1.out k hk)
  have hfar : ∀ y, av = some y → w1.heap.size ≤ y.block := fun y hy => (own_far F2 y hy).1
  have hbelA : Below w2.heap.size w2 (w2.alloc (.cells #[] 5)) := (Below.refl _ _).alloc (Nat.le_refl _) _
  have R0 := rv.below hbelA
  have O0 := own0D w2.heap.size f.2 w2 (Nat.le_refl _)
  have hszA := hbelA.size
  have H2 : Hid (_) := And.intro T2 (And.intro rv (And.intro y2 (And.intro fo2 hfar)))
  clear hFr h2 b2 F2 T2 rv y2 fo2 hfar
  go_wp2_with (at_builtin; refine wpList_append_row8 rfl (.tmp 24) (.tmp 25) 25 rfl w2.heap.size 5 i0 (.int .u8 0) Tryz.underlying25 hi hz0 hz1 hz2 rfl _ 0 _ rfl O0 av f.1 cv f.2 rfl R0 (by unfold maxLen; omega) (by omega) hszA ?_)
  intro v3 w3 hown3 hgrow3
  have b3 : Below w2.heap.size w2 w3 := hbelA.grown hgrow3 hszA (fun k hk => (O0.lt k hk).1)
  rw [show CB f.2 0 = [] from rfl, List.nil_append] at hown3
  have own3 : w3.ownsRow w2.heap.size 5 1 v3 f.1 (CB f.2 f.1) := by simpa using hown3
  obtain ⟨T2, rv, y2, fo2, hfar⟩ := H2.out
  obtain ⟨T1, hv, hL, ht, hP, hap⟩ := H0.out
  obtain ⟨a3, c3, rfl, r3⟩ := own_row8 own3 y2
  have T3 := T2.below b3
  have HK3 : Hid (∀ k, k ∈ F → w3.heap[k]? = w.heap[k]?) := fun k hk => (b3.block k (T2.fr k hk).1).trans (HK2.out k hk)
  have rv3 := rv.below b3
  have hRc := receive4_any L.d L.m L.g L.n L.mx L.P U s a3 f.1 c3 f.2 w3 T3.dv r3 (hv.sent hP) hv.od hL ht
  have hby := drecv_byte L.P L.mx L.n s hap f.1 f.2
  have hRF : ∀ w4 U4, Gr U w3 U4 w4 → DV w4 L.d L.m L.g L.n L.mx L.P U4 (drecv L.P L.mx L.n s f.1 f.2).s → Bt w0 w4 L (drecv L.P L.mx L.n s f.1 f.2).s s F U4 V ∧ Calls Tryz.prog 45 #[.pointer (some ⟨L.e, 0, none⟩), .slice av f.1 cv] w4 fun e w' => ∃ v, e = .returned (.tuple #[v, .int .i64 (drecv L.P L.mx L.n s f.1 f.2).e]) ∧ Hid (OutR V w4 w' L.e L.r L.q L.n L.mx L.P (drecv L.P L.mx L.n s f.1 f.2).s (drecv L.P L.mx L.n s f.1 f.2).f v) := by
    intro w4 U4 g4 x4
    have T4 := T3.dev g4 x4
    refine ⟨T4, rreceive_any L.e L.r L.q L.n L.mx L.P V s av f.1 cv f.2 w4 T4.rw (rv3.off g4.off (fun y hy hm => ?_)) (hv.sent hP) hv.od hL ht hv.ss⟩
    have := hfar y hy
    have := T1.dv.ult _ hm
    omega
  have HR : Hid (_) := hRF
  clear hRF
  have H3 : Hid (_) := And.intro T3 (And.intro hby (And.intro y2 fo2))
  generalize hRR : drecv L.P L.mx L.n s f.1 f.2 = R at *
  have HRR : Hid (_) := hRR
  clear hRR
  clear hown3 hgrow3 b3 own3 T2 rv y2 fo2 hfar T1 hv hL ht hP hap r3 T3 rv3 O0 R0 hbelA hszA H0 H2 hby l2 hbd
  go_wp2_with fail
  refine hRc.mono ?_
  rintro e w4 ⟨vx, rfl, h4⟩
  obtain ⟨U4, g4, x4, fx, kx⟩ := h4.out
  obtain ⟨T4, hR2⟩ := HR.out w4 U4 g4 x4
  have HK4 : Hid (∀ k, k ∈ F → w4.heap[k]? = w.heap[k]?) := fun k hk => (H3.out.1.kept g4 hk).trans (HK3.out k hk)
  obtain ⟨ax, cx, rfl, _⟩ := fx.row H3.out.2.1
  have H4 : Hid (_) := And.intro T4 (And.intro fx (And.intro H3.out g4.off.size))
  clear hRc h4 g4 x4 fx kx HR T4 H3
  go_wp2_with fail
  refine hR2.mono ?_
  rintro e w5 ⟨vy, rfl, h5⟩
  obtain ⟨T4, fx, ⟨T3, hby, y2, fo2⟩, hs4⟩ := H4.out
  obtain ⟨V5, g5, x5, fy, ky⟩ := h5.out
  have T5 := T4.ref g5 x5
  have HK5 : Hid (∀ k, k ∈ F → w5.heap[k]? = w.heap[k]?) := fun k hk => (T4.keptR g5 hk).trans (HK4.out k hk)
  have fx5 : Fr w5 w3.heap.size (.slice ax R.f.1 cx) R.f := own_offk fx g5.off (fun k hk hm => by
    have := fx.ge k hk
    have := T3.rw.ult k hm
    omega)
  obtain ⟨ax', cx', ex, rx⟩ := fx5.row hby
  simp only [Value.slice.injEq, true_and] at ex
  obtain ⟨rfl, rfl⟩ := ex
  obtain ⟨ay, cy, rfl, ry⟩ := fy.row hby
  have q1 := conv_any ax R.f.1 cx R.f.2 w5 rx
  have q2 := conv_any ay R.f.1 cy R.f.2 w5 ry
  obtain ⟨X, hX⟩ : ∃ X, BA R.f.2 R.f.1 = X := ⟨_, rfl⟩
  rw [hX] at q1 q2
  have H5 : Hid (_) := And.intro y2 (And.intro fo2 T5)
  clear hR2 h5 T4 fx T3 hby y2 fo2 hs4 g5 x5 fy ky T5 fx5 rx ry hX H4
  go_wp2_with fail
  go_ret
  exact ⟨by simp, f, H5.out.1, H5.out.2.1, ⟨U4, V5, by rw [HRR.out]; exact H5.out.2.2⟩, HK5.out⟩
theorem build56 (w : World) : (Instr.buildSlice 25 2 #[(0, .int .u8 5), (1, .int .u8 6)]).run Tryz.prog w = .ok (.slice (some ⟨w.heap.size, 0, none⟩) 2 2) (w.alloc (.cells #[.int .u8 5, .int .u8 6] 5)) := by kernel_rfl
theorem row56 (w : World) : Row8 (w.alloc (.cells #[.int .u8 5, .int .u8 6] 5)) (some ⟨w.heap.size, 0, none⟩) 2 2 (fun i => if i = 0 then 5 else 6) := by
  have e := heap_alloc_new w (.cells #[.int .u8 5, .int .u8 6] 5)
  refine ⟨fun i _ => by show (if i = 0 then 5 else 6) < 256; split <;> omega, (fun h => by cases h), fun x hx i hi => ?_, Nat.le_refl _⟩
  cases hx
  have c : i = 0 ∨ i = 1 := by omega
  rcases c with rfl | rfl
  · exact cell_of_row _ _ 0 _ _ _ e
  · exact cell_of_row _ _ 1 _ _ _ e
end Go.Proofs.YtmleiemlfogffaaGreat
