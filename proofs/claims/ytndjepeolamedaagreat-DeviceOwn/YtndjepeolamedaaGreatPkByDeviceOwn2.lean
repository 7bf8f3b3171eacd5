/- Part 2 of the texts of DeviceOwn beside the packed ones: lists of lists, Apart, the law itself. -/
import Derived.Deep.RegionHeld3
import Derived.Test.YtndjepeolamedaaGreatPkB33
import Derived.Test.YtndjepeolamedaaGreatPkB20
import Derived.Test.YtndjepeolamedaaGreatPkB16
import Derived.Test.YtndjepeolamedaaGreatPkByDeviceOwn1
namespace Go.Proofs.YtndjepeolamedaaGreat
set_option maxRecDepth 100000
open Go.RowKit
set_option maxHeartbeats 6400000 in
theorem step9_any (w0 w : World) (L : Pl) (s : Sd) (N fl : Int) (odd : Bool) (a : Option Addr) (len cap : Nat) (bs : Nat → Nat) (p : Int) (x : Nat) (h : Two w0 w L s) (hr : Row8 w a len cap bs) (hl : ∀ y, a = some y → 0 < len → y.block < w0.heap.size) (hss : s.ss < 4294967296) (hlen : len ≤ 140737488351232) :
    Calls Tryz.prog 29 #[.pointer (some ⟨L.d, 0, none⟩), .pointer (some ⟨L.m, 0, none⟩), .pointer (some ⟨L.e, 0, none⟩), .agg #[.int .i64 9, .int .i64 N, .int .i64 fl, .bool odd, .slice a len cap, .int .i64 p, .int .u32 (x : Nat)]] w fun e w' => e = .returned (.bool true) ∧ Hid (Two w0 w' L (dwriteS L.P s len bs odd)) := by
  have P0 := h.ph #[.int .i64 9, .int .i64 N, .int .i64 fl, .bool odd, .slice a len cap, .int .i64 p, .int .u32 (x : Nat)] hr hl
  obtain ⟨V, rv, _⟩ := P0.ref
  have hFr := frameN_any L.e L.r L.q L.n L.mx L.P V s 9 N fl odd a len cap bs p x (w.alloc (.cells #[.int .i64 9, .int .i64 N, .int .i64 fl, .bool odd, .slice a len cap, .int .i64 p, .int .u32 (x : Nat)] 50)) rv P0.row (fun y hy h0 => by
    obtain ⟨U', V', T⟩ := P0.bt
    have := hl y hy h0; have := T.bel.size; omega) hss (by omega)
  have HP : Hid (_) := P0
  have HL : Hid (_) := hlen
  clear h hr hl hss P0 rv hlen
  go_enter Tryz.func29, Tryz.ntmps29
  go_wp2_with (go_at_call 23; refine hFr.mono ?_; rintro e w2 ⟨rfl, b2⟩; have P2 := HP.out.below b2; have c0 : w2.cell? ⟨w.heap.size, 0, none⟩ = some (.int .i64 9) := cell_of_row w2 _ 0 _ _ _ P2.bx; have H2 : Hid (_) := P2; clear P2 b2 hFr HP)
  clear c0
  have hbd := build0D
  have cA := fun t wx (hx : Ph w0 wx L s t w.heap.size #[.int .i64 9, .int .i64 N, .int .i64 fl, .bool odd, .slice a len cap, .int .i64 p, .int .u32 (x : Nat)] a len cap bs) a' c' (hr' : Row8 wx a' len c' bs) => (by
    obtain ⟨U, hd, hk⟩ := hx.dev
    refine (dvwrite_any L.d L.m L.g L.n L.mx L.P U s a' len c' bs odd wx hd hr').mono ?_
    rintro e w' ⟨rfl, h5⟩
    obtain ⟨U', g5, x5⟩ := h5.out
    exact ⟨rfl, hk U' w' _ g5 x5⟩ : Calls Tryz.prog 20 #[.pointer (some ⟨L.d, 0, none⟩), .slice a' len c', .bool odd] wx fun e w' => e = .returned (.int .i64 (dwriteE L.P s len)) ∧ Ph w0 w' L (dwriteS L.P s len bs odd) t w.heap.size #[.int .i64 9, .int .i64 N, .int .i64 fl, .bool odd, .slice a len cap, .int .i64 p, .int .u32 (x : Nat)] a len cap bs)
  have cB := fun t wx (hx : Ph w0 wx L t s w.heap.size #[.int .i64 9, .int .i64 N, .int .i64 fl, .bool odd, .slice a len cap, .int .i64 p, .int .u32 (x : Nat)] a len cap bs) => (by
    obtain ⟨U, hd, hk⟩ := hx.ref
    refine (rvwrite_any L.e L.r L.q L.n L.mx L.P U s a len cap bs odd wx hd hx.row).mono ?_
    rintro e w' ⟨rfl, h5⟩
    obtain ⟨U', g5, x5⟩ := h5.out
    exact ⟨rfl, hk U' w' _ g5 x5⟩ : Calls Tryz.prog 21 #[.pointer (some ⟨L.e, 0, none⟩), .slice a len cap, .bool odd] wx fun e w' => e = .returned (.int .i64 (dwriteE L.P s len)) ∧ Ph w0 w' L t (dwriteS L.P s len bs odd) w.heap.size #[.int .i64 9, .int .i64 N, .int .i64 fl, .bool odd, .slice a len cap, .int .i64 p, .int .u32 (x : Nat)] a len cap bs)
  have HSall : ∀ wx, Below w2.heap.size w2 wx → wx.cell? ⟨w.heap.size, 3, none⟩ = some (.bool odd) ∧ wx.cell? ⟨w.heap.size, 4, none⟩ = some (.slice a len cap) := fun wx b => ⟨cell_of_row wx _ 3 _ _ _ (H2.out.below b).bx, cell_of_row wx _ 4 _ _ _ (H2.out.below b).bx⟩
  have hRw : ∀ wx, Below w2.heap.size w2 wx → Row8 wx a len cap bs := fun wx b => H2.out.row.below b
  have HS := HSall w2.drew (Below.drew (Below.refl _ _))
  obtain ⟨s2, hs2⟩ : ∃ S, dwriteS L.P s len bs odd = S := ⟨_, rfl⟩
  obtain ⟨r, hr2⟩ : ∃ S, dwriteE L.P s len = S := ⟨_, rfl⟩
  rw [hs2, hr2] at cA cB
  have HE : Hid (_) := hs2
  have hlen := HL.out
  clear hs2 hr2
  go_region_held3 (fun w' => w'.cell? ⟨w.heap.size, 3, none⟩ = some (.bool odd) ∧ w'.cell? ⟨w.heap.size, 4, none⟩ = some (.slice a len cap)) (first | with_reducible assumption | exact HSall _ (by repeat (first | with_reducible assumption | with_reducible refine below_drewN ?_ _ | with_reducible refine Below.drew ?_ | with_reducible refine belowA ?_ _ | with_reducible exact Below.refl _ _))) (first
    | (refine step_append8L rfl (.tmp 62) (.tmp 64) rfl w2.heap.size _ rfl (by first | exact own0L _ _ (Nat.le_refl _) | exact own0Ld _ _ (Nat.le_refl _)) a len cap bs rfl (hRw _ (by repeat (first | with_reducible assumption | with_reducible refine below_drewN ?_ _ | with_reducible refine Below.drew ?_ | with_reducible refine belowA ?_ _ | with_reducible exact Below.refl _ _))) hlen w2 (by repeat (first | with_reducible assumption | with_reducible refine below_drewN ?_ _ | with_reducible refine Below.drew ?_ | with_reducible refine belowA ?_ _ | with_reducible exact Below.refl _ _)) (Nat.le_refl _) ?_; intro a3 c3 w3 H3 b3; have cC := cA _ w3 (H2.out.below b3) a3 c3 (own_slice8 H3.out H2.out.row.byte))
    | (go_at_call 20; refine cC.mono ?_; rintro e w4 ⟨rfl, h4⟩; have HT4 : w4.cell? ⟨w.heap.size, 3, none⟩ = some (.bool odd) ∧ w4.cell? ⟨w.heap.size, 4, none⟩ = some (.slice a len cap) := ⟨cell_of_row w4 _ 3 _ _ _ h4.bx, cell_of_row w4 _ 4 _ _ _ h4.bx⟩; have cD := cB _ w4 h4)
    | (go_at_call 21; refine cD.mono ?_; rintro e w5 ⟨rfl, h5⟩; have HT5 : w5.cell? ⟨w.heap.size, 3, none⟩ = some (.bool odd) ∧ w5.cell? ⟨w.heap.size, 4, none⟩ = some (.slice a len cap) := ⟨cell_of_row w5 _ 3 _ _ _ h5.bx, cell_of_row w5 _ 4 _ _ _ h5.bx⟩; have H5 : Hid (_) := h5; clear h5))
  all_goals
    go_wp2_with fail
    go_ret
    rw [HE.out]
    exact ⟨by simp, H5.out.two⟩
end Go.Proofs.YtndjepeolamedaaGreat
namespace Go.Proofs.YtndjepeolamedaaGreat
set_option maxRecDepth 100000
open Go.RowKit
def Osx (L : Pl) (s : Sd) (K N fl : Int) (odd : Bool) (len : Nat) (bs : Nat → Nat) (x : Nat) (s' : Sd) : Prop :=
  (1 ≤ K ∧ K ≤ 7 → ∃ f : Fm, (∀ i, i < f.1 → f.2 i < 256) ∧ Fo L.P s K N fl odd len bs x f ∧ s' = (drecv L.P L.mx L.n s f.1 f.2).s) ∧ (K = 8 → s' = dtickS L.P s N) ∧ (K = 9 → s' = dwriteS L.P s len bs odd) ∧ (K = 10 → s' = dackS s) ∧
  (K = 11 → s' = dresetS L.mx L.n s N) ∧ (K = 12 → s' = { s with ms := arS s.ms N }) ∧ (¬ (1 ≤ K ∧ K ≤ 12) → s' = s)
theorem Two.mo {w0 w : World} {L : Pl} {s : Sd} (h : Two w0 w L s) : Mo L.mx L.n s ∧ Pok L.P ∧ (∀ i, i < L.P.i → s.ap i < 256) ∧ Below w0.heap.size w0 w := by
  obtain ⟨U, V, T⟩ := h
  obtain ⟨B, y⟩ := id T.dv
  exact ⟨Mo.of T.dv, y.pok, y.apb, T.bel⟩
theorem step_op (w0 w : World) (L : Pl) (s : Sd) (K N fl : Int) (odd : Bool) (a : Option Addr) (len cap : Nat) (bs : Nat → Nat) (p : Int) (x : Nat) (h : Two w0 w L s) (hr : Row8 w a len cap bs) (hl : ∀ y, a = some y → 0 < len → y.block < w0.heap.size) (hx : x < 4294967296) (hlen : len ≤ 140737488351232) (hN : N ≤ 9223372036854775807) (hv : Iv L.P s) (hL : s.L.length < 800000) (ht : s.ms.t < 9223372036854774000) :
    Calls Tryz.prog 29 #[.pointer (some ⟨L.d, 0, none⟩), .pointer (some ⟨L.m, 0, none⟩), .pointer (some ⟨L.e, 0, none⟩), .agg #[.int .i64 K, .int .i64 N, .int .i64 fl, .bool odd, .slice a len cap, .int .i64 p, .int .u32 (x : Nat)]] w fun e w' => e = .returned (.bool true) ∧ Hid (∃ s', Two w0 w' L s' ∧ Iv L.P s' ∧ Gw s s' ∧ Osx L s K N fl odd len bs x s') := by
  obtain ⟨M, hP, _, _⟩ := h.mo
  by_cases h7 : 1 ≤ K ∧ K ≤ 7
  · refine (step_recv w0 w L s K N fl odd a len cap bs p x h hr hl h7 hx hlen hv hL ht).mono ?_
    rintro e w' ⟨rfl, h5⟩
    obtain ⟨f, y, fo, T⟩ := h5.out
    exact ⟨rfl, _, T, hv.recv hP M f.1 f.2, gw_recv M f.1 f.2, fun _ => ⟨f, y, fo, rfl⟩, fun e => by omega, fun e => by omega, fun e => by omega, fun e => by omega, fun e => by omega, fun e => by omega⟩
  · by_cases h12 : 1 ≤ K ∧ K ≤ 12
    · have : K = 8 ∨ K = 9 ∨ K = 10 ∨ K = 11 ∨ K = 12 := by omega
      rcases this with rfl | rfl | rfl | rfl | rfl
      · refine (step8_any w0 w L s N fl odd a len cap bs p x h hr hl hv.ss hN hL).mono ?_
        rintro e w' ⟨rfl, h5⟩
        exact ⟨rfl, _, h5.out, hv.tick N, gw_tick N, fun e => by omega, fun _ => rfl, fun e => by omega, fun e => by omega, fun e => by omega, fun e => by omega, fun e => by omega⟩
      · refine (step9_any w0 w L s N fl odd a len cap bs p x h hr hl hv.ss hlen).mono ?_
        rintro e w' ⟨rfl, h5⟩
        exact ⟨rfl, _, h5.out, hv.write len bs odd, gw_write len bs odd, fun e => by omega, fun e => by omega, fun _ => rfl, fun e => by omega, fun e => by omega, fun e => by omega, fun e => by omega⟩
      · refine (step10_any w0 w L s N fl odd a len cap bs p x h hr hl hv.ss).mono ?_
        rintro e w' ⟨rfl, h5⟩
        exact ⟨rfl, _, h5.out, hv.ack, gw_ack, fun e => by omega, fun e => by omega, fun e => by omega, fun _ => rfl, fun e => by omega, fun e => by omega, fun e => by omega⟩
      · refine (step11_any w0 w L s N fl odd a len cap bs p x h hr hl hv.ss hN ht).mono ?_
        rintro e w' ⟨rfl, h5⟩
        exact ⟨rfl, _, h5.out, hv.reset N, gw_reset M N, fun e => by omega, fun e => by omega, fun e => by omega, fun e => by omega, fun _ => rfl, fun e => by omega, fun e => by omega⟩
      · refine (step12_any w0 w L s N fl odd a len cap bs p x h hr hl hv.ss hN).mono ?_
        rintro e w' ⟨rfl, h5⟩
        exact ⟨rfl, _, h5.out, hv.arm N, gw_arm N, fun e => by omega, fun e => by omega, fun e => by omega, fun e => by omega, fun e => by omega, fun _ => rfl, fun e => by omega⟩
    · refine (stepN_any w0 w L s K N fl odd a len cap bs p x h hr hl hv.ss h12).mono ?_
      rintro e w' ⟨rfl, h5⟩
      exact ⟨rfl, _, h5.out, hv, ⟨by omega, by omega⟩, fun e => absurd e h7, fun e => by omega, fun e => by omega, fun e => by omega, fun e => by omega, fun e => by omega, fun _ => rfl⟩
theorem two_made {w0 w w1 w2 : World} {L : Pl} {s : Sd} {U V : List Nat} (bel : Below w0.heap.size w0 w) (o1 : Off [L.m, L.g] w w1) (D : DV w1 L.d L.m L.g L.n L.mx L.P U s) (hU : ∀ k, k ∈ U → k = L.m ∨ k = L.g ∨ w.heap.size ≤ k)
    (o2 : Off [L.r, L.q] w1 w2) (R : RW w2 L.e L.r L.q L.n L.mx L.P V s) (hV : ∀ k, k ∈ V → k = L.r ∨ k = L.q ∨ w1.heap.size ≤ k) (h0 : w0.heap.size ≤ L.m ∧ w0.heap.size ≤ L.g ∧ w0.heap.size ≤ L.r ∧ w0.heap.size ≤ L.q)
    (hne : L.m ≠ L.r ∧ L.m ≠ L.q ∧ L.g ≠ L.r ∧ L.g ≠ L.q) (hlt : L.r < w.heap.size ∧ L.q < w.heap.size) (hK : L.K = []) : Two w0 w2 L s := by
  have s1 := o1.size
  have sb := bel.size
  have b1 : Below w0.heap.size w0 w1 := o1.below bel (by simp; omega) bel.size
  have hUr : ∀ k, k ∈ U → k ∉ [L.r, L.q] := fun k hk hm => by
    have := hU k hk
    simp at hm
    omega
  refine ⟨U, V, o2.below b1 (by simp; omega) b1.size, D.off o2 hUr, R, fun k hk => ⟨?_, fun hm => ?_⟩, fun k hk => ?_, fun k hk => by simp at hk, fun x hx => by rw [hK] at hx; simp at hx⟩
  · have := hU k hk; omega
  · have h1 := hU k hk
    have h2 := hV k hm
    have h3 := D.ult k hk
    omega
  · have := hV k hk; omega
end Go.Proofs.YtndjepeolamedaaGreat
namespace Go.Proofs.YtndjepeolamedaaGreat
set_option maxRecDepth 100000
open Go.RowKit
def Ak (v v' : Vs) : Prop := von v' = true → von v = true ∧ v'.bs = v.bs
theorem Ak.refl (v : Vs) : Ak v v := fun h => ⟨h, rfl⟩
theorem Ak.trans {a b c : Vs} (h : Ak a b) (k : Ak b c) : Ak a c := fun e => ⟨(h (k e).1).1, (k e).2.trans (h (k e).1).2⟩
theorem Ak.off {a b : Vs} (h : von b = false) : Ak a b := fun e => by rw [h] at e; cases e
theorem ak_trip (v : Vs) (x : Int) : Ak v (vtrip v x) := by
  unfold vtrip
  split
  · exact Ak.refl v
  · exact Ak.off (by unfold von; simp)
theorem ak_run (v : Vs) (o : Bool) : Ak v (vrun v o) := by
  unfold vrun
  split
  · exact Ak.refl v
  · exact Ak.off (by unfold von; simp)
theorem ak_fresh (v : Vs) : Ak v (vfresh v) := fun e => ⟨e, rfl⟩
theorem ak_ack (v : Vs) : Ak v (vack v) := by
  unfold vack
  split
  · exact fun e => ⟨e, rfl⟩
  · exact Ak.refl v
theorem von_run {v : Vs} (h : von v = true) : v.run = true ∧ v.sm = true := by
  unfold von at h
  revert h
  cases v.run <;> cases v.held <;> cases v.sm <;> decide
theorem Iv.on {P : Pm} {s : Sd} (h : Iv P s) (ho : von s.v = true) : s.st = 4 ∧ s.v.lat = 0 := by
  obtain ⟨h1, h2⟩ := von_run ho
  rw [h.vr] at h1
  exact ⟨of_decide_eq_true h1, h.vok.sm h2⟩
structure Nt (s s' : Sd) : Prop where
  nm : s'.ss = s.ss → s'.nm = s.nm
  zz : vz s.ms.bs ≤ vz s'.ms.bs
  up : s'.ss = s.ss ∨ s'.ss = 0 ∨ vz s.ms.bs < s'.ss
  ak : Ak s.v s'.v
theorem Nt.refl (s : Sd) : Nt s s := ⟨fun _ => rfl, Nat.le_refl _, .inl rfl, Ak.refl _⟩
theorem Nt.same {s s' : Sd} (h1 : s'.ss = s.ss) (h2 : s'.nm = s.nm) (h3 : s'.ms.bs = s.ms.bs) (h4 : Ak s.v s'.v) : Nt s s' := ⟨fun _ => h2, by rw [h3]; exact Nat.le_refl _, .inl h1, h4⟩
theorem Nt.zero {P : Pm} {s s' : Sd} (h : Iv P s) (h1 : s'.ss = 0) (h2 : s'.nm = 0) (h3 : vz s.ms.bs ≤ vz s'.ms.bs) (h4 : Ak s.v s'.v) : Nt s s' := ⟨fun e => by rw [h2, h.s0 (by omega)], h3, .inr (.inl h1), h4⟩
theorem Nt.latch (s : Sd) (x : Int) : Nt s (dlatch s x) := by
  obtain ⟨_, l2, l3, _, _, l6, _, _⟩ := dlatch_flds s x
  exact Nt.same l2 l3 (by rw [l6]) (by rw [dlatch_v]; exact ak_trip _ _)
theorem vrun_off (v : Vs) : von (vrun v false) = false := by unfold von; rw [vrun_run]; rfl
theorem von_new : von vnew = false := rfl
theorem Nt.odd {P : Pm} {s : Sd} (h : Iv P s) : Nt s (dodd s) := by
  have hm : (dodd s).ms.bs = s.ms.bs := by rw [dodd_ms]
  revert hm
  unfold dodd
  split
  · split
    · exact fun _ => Nt.same rfl rfl rfl (Ak.refl _)
    · exact fun hm => Nt.zero h rfl rfl (by rw [hm]; exact Nat.le_refl _) (Ak.off (vrun_off _))
  · exact fun _ => Nt.refl _
theorem Nt.begin_ {P : Pm} {mx n : Nat} {s : Sd} (h : Iv P s) (M : Mo mx n s) (hu : s.st ≠ 6) : Nt s (dbegin P mx n s).s := by
  have hv := nx_vz (mx := mx) (n := n) (s := s.ms) M.n10 (M.off hu) M.l0 M.mxl
  unfold dbegin
  generalize nx mx n s.ms.bs false s.ms = X at *
  split
  · rename_i h80
    refine Nt.zero h rfl rfl ?_ (Ak.off (vrun_off _))
    show _ ≤ vz (dlatch { s with ms := X.s } 80).ms.bs
    rw [dlatch_ms]
    show _ ≤ vz X.s.bs
    rw [hv.2 (by omega)]; exact Nat.le_refl _
  · split
    · rename_i h0
      refine Nt.zero h rfl rfl ?_ (Ak.off von_new)
      show _ ≤ vz X.s.bs
      rw [hv.2 h0]; exact Nat.le_refl _
    · rename_i e0
      have e0 : X.e = 0 := by simpa using e0
      obtain ⟨v1, v2, v3⟩ := hv.1 e0
      have hz := h.z
      refine ⟨fun e => ?_, ?_, .inr (.inr ?_), Ak.off (vrun_off _)⟩
      · have e : X.v = s.ss := e
        omega
      · show _ ≤ vz X.s.bs
        omega
      · show _ < X.v
        omega
theorem Nt.trans_odd {P : Pm} {s s' : Sd} (h : Iv P s) (k : Nt (dodd s) s') : Nt s s' := by
  have o := Nt.odd h
  have hm : vz (dodd s).ms.bs = vz s.ms.bs := by rw [dodd_ms]
  have hs : (dodd s).ss = s.ss ∧ (dodd s).nm = s.nm ∨ (dodd s).ss = 0 ∧ (dodd s).nm = 0 := by
    unfold dodd
    split
    · split
      · exact .inl ⟨rfl, rfl⟩
      · exact .inr ⟨rfl, rfl⟩
    · exact .inl ⟨rfl, rfl⟩
  have kv := k.zz
  have ku := k.up
  have hz := h.z
  have h0 := h.s0
  refine ⟨fun e => ?_, by omega, ?_, o.ak.trans k.ak⟩
  · rcases hs with ⟨a, b⟩ | ⟨a, b⟩
    · rw [← b]; exact k.nm (by omega)
    · by_cases z : s.ss = 0
      · rw [k.nm (by omega), b, h0 z]
      · exfalso; omega
  · rcases hs with ⟨a, b⟩ | ⟨a, b⟩ <;> omega
theorem Nt.wish {P : Pm} {mx n : Nat} {s : Sd} (h : Iv P s) (M : Mo mx n s) (hu : s.st ≠ 6) : Nt s (dwish P mx n s).s := by
  unfold dwish
  split
  · exact Nt.odd h
  · split
    · exact Nt.odd h
    · exact Nt.trans_odd h (Nt.begin_ h.odd M.odd (dodd_up hu))
theorem Nt.echo (s : Sd) : Nt s (dechoS s) := by
  unfold dechoS
  split
  · exact Nt.same rfl rfl rfl (ak_fresh _)
  · exact Nt.refl _
theorem Nt.start (s : Sd) : Nt s (dstartS s) := by
  unfold dstartS
  split
  · exact Nt.same rfl rfl rfl ((ak_run s.v true).trans (ak_fresh _))
  · exact Nt.refl _
theorem Nt.write {P : Pm} (s : Sd) (len : Nat) (bs : Nat → Nat) (o : Bool) : Nt s (dwriteS P s len bs o) := by
  unfold dwriteS
  split
  · exact Nt.refl _
  · split
    · exact Nt.same rfl rfl rfl (Ak.refl _)
    · exact Nt.refl _
theorem Nt.tick {P : Pm} (s : Sd) (k : Int) : Nt s (dtickS P s k) := by
  unfold dtickS
  split
  · exact Nt.refl _
  · split
    · exact Nt.refl _
    · split
      · have := Nt.latch { s with dc := tk P.t s.dc k.toNat } 100
        exact ⟨this.nm, this.zz, this.up, this.ak⟩
      · exact Nt.same rfl rfl rfl (Ak.refl _)
theorem Nt.ack (s : Sd) : Nt s (dackS s) := by
  unfold dackS
  split
  · exact Nt.refl _
  · exact Nt.same rfl rfl rfl (ak_ack _)
theorem Nt.reset {P : Pm} {mx n : Nat} {s : Sd} (h : Iv P s) (M : Mo mx n s) (k : Int) : Nt s (dresetS mx n s k) := by
  have hz := (reset_vz (mx := mx) (n := n) s k M.bz M.l0).1
  revert hz
  unfold dresetS
  split
  · exact fun _ => Nt.refl _
  · exact fun hz => Nt.zero h rfl rfl (by rw [hz]; exact Nat.le_refl _) (Ak.off von_new)
theorem Nt.arm (s : Sd) (p : Int) : Nt s { s with ms := arS s.ms p } :=
  Nt.same rfl rfl (by show (arS s.ms p).bs = s.ms.bs; unfold arS; split <;> rfl) (Ak.refl _)
end Go.Proofs.YtndjepeolamedaaGreat
namespace Go.Proofs.YtndjepeolamedaaGreat
set_option maxRecDepth 100000
open Go.RowKit
end Go.Proofs.YtndjepeolamedaaGreat
namespace Go.Proofs.YtndjepeolamedaaGreat
set_option maxRecDepth 100000
open Go.RowKit
structure Tld (F : Fm) (k c s n f len : Nat) (bs : Nat → Nat) : Prop where
  de : DE F.2 F.1 = 0
  ln : F.1 - 19 = len
  k : F.2 0 = k
  c : w4v F.2 1 = c
  s : w4v F.2 5 = s
  n : w4v F.2 9 = n
  f : F.2 13 = f
  bs : ∀ j, j < len → F.2 (15 + j) = bs j
theorem tld_enc {k c s n f len : Nat} {bs : Nat → Nat} (hc : c < 4294967296) (hs : s < 4294967296) (hn : n < 4294967296) : Tld (encF k c s n f len bs) k c s n f len bs ∨ encF k c s n f len bs = fm0 := by
  by_cases h : LW k c s n f len len = 0
  · left
    have hl : len ≤ 8 := by have := (LW_zero h).2.2.2.1; omega
    obtain ⟨e1, e2, e3, e4, e5, e6, e7⟩ := DE_back k c s n f len bs hc hs hn hl h
    have hF : encF k c s n f len bs = (15 + len + 4, PM.sl (fr k c s n f len bs) (15 + len)) := if_pos h
    rw [hF]
    exact ⟨e1, by show 15 + len + 4 - 19 = len; omega, e2, e3, e4, e5, e6, e7⟩
  · right; exact if_neg h
theorem dlatch_ap (s : Sd) (x : Int) : (dlatch s x).ap = s.ap ∧ (dlatch s x).hd = s.hd := by unfold dlatch dnote; split <;> exact ⟨rfl, rfl⟩
theorem dodd_ap (s : Sd) : (dodd s).ap = s.ap ∧ (dodd s).hd = s.hd := by
  unfold dodd
  split
  · split
    · exact ⟨rfl, rfl⟩
    · split
      · exact dlatch_ap _ _
      · exact ⟨rfl, rfl⟩
  · exact ⟨rfl, rfl⟩
def Apk (s : Sd) (R : Rs) : Prop := (R.e = 70 → R.s.ap = (fun _ => 0) ∧ R.s.hd = false) ∧ (R.e ≠ 70 → R.s.ap = s.ap ∧ R.s.hd = s.hd ∧ R.s.st ≠ 6)
theorem dodd_st6 {s : Sd} (h : s.st ≠ 6) : (dodd s).st ≠ 6 := dodd_up h
theorem apk_begin (P : Pm) (mx n : Nat) {s : Sd} : Apk s (dbegin P mx n s) := by
  have he := nx_e mx n s.ms.bs false s.ms
  unfold dbegin
  split
  · refine ⟨fun h => absurd h (by show (80 : Int) ≠ 70; omega), fun _ => ⟨(dlatch_ap { s with ms := (nx mx n s.ms.bs false s.ms).s } 80).1, (dlatch_ap { s with ms := (nx mx n s.ms.bs false s.ms).s } 80).2, by show (5 : Nat) ≠ 6; omega⟩⟩
  · split
    · rename_i h1 h2
      refine ⟨fun _ => ⟨rfl, rfl⟩, fun h => ?_⟩
      exfalso
      have h : (nx mx n s.ms.bs false s.ms).e ≠ 70 := h
      omega
    · exact ⟨fun h => absurd h (by show (0 : Int) ≠ 70; omega), fun _ => ⟨rfl, rfl, by show (2 : Nat) ≠ 6; omega⟩⟩
theorem apk_odd {s : Sd} (h6 : s.st ≠ 6) (e : Int) (he : e ≠ 70) (f : Fm) : Apk s ⟨dodd s, f, e⟩ := ⟨fun h => absurd h he, fun _ => ⟨(dodd_ap s).1, (dodd_ap s).2, dodd_st6 h6⟩⟩
theorem apk_wish (P : Pm) (mx n : Nat) {s : Sd} (h6 : s.st ≠ 6) : Apk s (dwish P mx n s) := by
  unfold dwish
  split
  · exact apk_odd h6 130 (by omega) _
  · split
    · exact apk_odd h6 130 (by omega) _
    · have h := apk_begin P mx n (s := dodd s)
      exact ⟨h.1, fun e => ⟨(h.2 e).1.trans (dodd_ap s).1, (h.2 e).2.1.trans (dodd_ap s).2, (h.2 e).2.2⟩⟩
theorem apk_take (P : Pm) (mx n : Nat) {s : Sd} (h6 : s.st ≠ 6) (k ss num fl len : Nat) (bs : Nat → Nat) : Apk s (dtake P mx n s k ss num fl len bs) := by
  have r : ∀ e : Int, e ≠ 70 → Apk s (drefuse P s e) := fun e he => apk_odd h6 e he _
  unfold dtake
  split
  · split
    · exact apk_wish P mx n h6
    · exact r 91 (by omega)
  · split
    · split
      · refine ⟨fun h => absurd h (by show (0 : Int) ≠ 70; omega), fun _ => ?_⟩
        show (dechoS s).ap = s.ap ∧ (dechoS s).hd = s.hd ∧ (dechoS s).st ≠ 6
        unfold dechoS
        split
        · exact ⟨rfl, rfl, by show (3 : Nat) ≠ 6; omega⟩
        · exact ⟨rfl, rfl, h6⟩
      · exact r 91 (by omega)
    · split
      · refine ⟨fun h => absurd h (by show (0 : Int) ≠ 70; omega), fun _ => ?_⟩
        show (dstartS s).ap = s.ap ∧ (dstartS s).hd = s.hd ∧ (dstartS s).st ≠ 6
        unfold dstartS
        split
        · exact ⟨rfl, rfl, by show (4 : Nat) ≠ 6; omega⟩
        · exact ⟨rfl, rfl, h6⟩
      · split
        · exact ⟨fun h => absurd h (by show (0 : Int) ≠ 70; omega), fun _ => ⟨rfl, rfl, h6⟩⟩
        · split
          · refine ⟨fun h => absurd h (by show (0 : Int) ≠ 70; omega), fun _ => ?_⟩
            obtain ⟨a, b⟩ := dlatch_ap (don { s with nm := P.n }) 80
            exact ⟨a, b, by show (5 : Nat) ≠ 6; omega⟩
          · exact r 130 (by omega)
theorem apk_recv (P : Pm) (mx n : Nat) (s : Sd) (h0 : s.st = 6 → s.ap = (fun _ => 0) ∧ s.hd = false) (len : Nat) (bs : Nat → Nat) : Apk s (drecv P mx n s len bs) := by
  unfold drecv
  by_cases h6 : s.st = 6
  · rw [if_pos h6]
    exact ⟨fun _ => h0 h6, fun h => absurd rfl h⟩
  · rw [if_neg h6]
    have hh : Apk s (dhear P mx n s len bs) := by
      unfold dhear
      split
      · rename_i hd
        refine ⟨fun h => ?_, fun _ => ⟨rfl, rfl, h6⟩⟩
        have h : DE bs len = 70 := h
        have := (DE_rng bs len).2
        omega
      · split
        · exact ⟨fun h => absurd h (by show (43 : Int) ≠ 70; omega), fun _ => ⟨rfl, rfl, h6⟩⟩
        · split
          · exact ⟨fun h => absurd h (by show (44 : Int) ≠ 70; omega), fun _ => ⟨rfl, rfl, h6⟩⟩
          · exact apk_take P mx n h6 _ _ _ _ _ _
    generalize dhear P mx n s len bs = R at *
    split
    · exact hh
    · exact hh
def Fgd (P : Pm) (R : Rs) : Prop := DE R.f.2 R.f.1 ≠ 0 ∨ (DE R.f.2 R.f.1 = 0 ∧ R.f.2 0 ≠ 20) ∨ Tld R.f 20 P.c R.s.ss R.s.sn (dflags R.s) P.i R.s.ap
theorem fgd_other {P : Pm} {s : Sd} {e : Int} {k c ss num fl len : Nat} {bs : Nat → Nat} (hc : c < 4294967296) (hs : ss < 4294967296) (hn : num < 4294967296) (hk : k ≠ 20) : Fgd P ⟨s, encF k c ss num fl len bs, e⟩ := by
  rcases tld_enc (k := k) (f := fl) (len := len) (bs := bs) hc hs hn with t | t
  · exact .inr (.inl ⟨t.de, by show (encF k c ss num fl len bs).2 0 ≠ 20; rw [t.k]; exact hk⟩)
  · left
    show DE (encF k c ss num fl len bs).2 (encF k c ss num fl len bs).1 ≠ 0
    rw [t]
    show DE (fun _ => 0) 0 ≠ 0
    decide
theorem fgd_begin {P : Pm} {mx n : Nat} {s : Sd} (hP : Pok P) (hz : (nx mx n s.ms.bs false s.ms).v < 4294967296) (h : (dbegin P mx n s).e = 0) : Fgd P (dbegin P mx n s) := by
  unfold dbegin at *
  split at h
  · exact absurd h (by show (80 : Int) ≠ 0; omega)
  · rename_i h1
    rw [if_neg h1]
    split at h
    · rename_i h2
      exact absurd h h2
    · rename_i h2
      rw [if_neg h2]
      exact fgd_other hP.c hz (by omega) (by omega)
theorem fgd_take {P : Pm} {mx n : Nat} {s : Sd} (hP : Pok P) (hv : Iv P s) (M : Mo mx n s) (h6 : s.st ≠ 6) (k ss num fl len : Nat) (bs : Nat → Nat) (h : (dtake P mx n s k ss num fl len bs).e = 0) : Fgd P (dtake P mx n s k ss num fl len bs) := by
  have hss := hv.ss
  unfold dtake at *
  by_cases c1 : k = 1
  · rw [if_pos c1] at h ⊢
    by_cases c2 : dsigned P len bs = true
    · rw [if_pos c2] at h ⊢
      unfold dwish at *
      by_cases d2 : (dodd s).st = 2
      · rw [if_pos d2] at h; exact absurd h (by show (130 : Int) ≠ 0; omega)
      · rw [if_neg d2] at h ⊢
        by_cases d3 : (dodd s).st = 3 ∨ (dodd s).st = 4
        · rw [if_pos d3] at h; exact absurd h (by show (130 : Int) ≠ 0; omega)
        · rw [if_neg d3] at h ⊢
          refine fgd_begin hP ?_ h
          have hms : (dodd s).ms = s.ms := dodd_ms s
          rw [hms]
          have hq := nx_vz (mx := mx) (n := n) (s := s.ms) M.n10 (M.off h6) M.l0 M.mxl
          rcases nx_e mx n s.ms.bs false s.ms with e | e | e
          · obtain ⟨v1, v2, v3⟩ := hq.1 e
            have := M.mxl
            omega
          · have : (nx mx n s.ms.bs false s.ms).v = 0 := by
              revert e; unfold nx
              split
              · exact fun _ => rfl
              · split
                · exact fun _ => rfl
                · split
                  · intro e; exact absurd e (by show (0 : Int) ≠ 70; omega)
                  · exact fun _ => rfl
            omega
          · have : (nx mx n s.ms.bs false s.ms).v = 0 := by
              revert e; unfold nx
              split
              · exact fun _ => rfl
              · split
                · exact fun _ => rfl
                · split
                  · intro e; exact absurd e (by show (0 : Int) ≠ 80; omega)
                  · exact fun _ => rfl
            omega
    · rw [if_neg c2] at h; exact absurd h (by show (91 : Int) ≠ 0; omega)
  · rw [if_neg c1] at h ⊢
    by_cases c2 : k = 2 ∧ ss = s.ss ∧ (s.st = 2 ∨ s.st = 3)
    · rw [if_pos c2] at h ⊢
      by_cases c3 : dsigned P len bs = true
      · rw [if_pos c3]
        refine fgd_other hP.c ?_ (by omega) (by omega)
        unfold dechoS
        split <;> exact hss
      · rw [if_neg c3] at h; exact absurd h (by show (91 : Int) ≠ 0; omega)
    · rw [if_neg c2] at h ⊢
      by_cases c3 : k = 3 ∧ ss = s.ss ∧ (s.st = 3 ∨ s.st = 4 ∧ s.nm = 0)
      · rw [if_pos c3]
        refine fgd_other hP.c ?_ (by omega) (by omega)
        unfold dstartS
        split <;> exact hss
      · rw [if_neg c3] at h ⊢
        by_cases c4 : k = 4 ∧ (ss = s.ss ∧ s.st = 4 ∧ s.nm < num) ∧ num < P.n ∧ len = P.o
        · rw [if_pos c4]
          have hsn := hv.sent hP c4.2.1.2.1
          rcases tld_enc (k := 20) (c := P.c) (s := (ddataS s num fl bs).ss) (n := s.sn + 1) (f := dflags (ddataS s num fl bs)) (len := P.i) (bs := s.ap) hP.c hss hsn with t | t
          · exact .inr (.inr t)
          · left
            show DE (encF 20 P.c (ddataS s num fl bs).ss (s.sn + 1) (dflags (ddataS s num fl bs)) P.i s.ap).2 (encF 20 P.c (ddataS s num fl bs).ss (s.sn + 1) (dflags (ddataS s num fl bs)) P.i s.ap).1 ≠ 0
            rw [t]
            show DE (fun _ => 0) 0 ≠ 0
            decide
        · rw [if_neg c4] at h ⊢
          by_cases c5 : k = 5 ∧ (ss = s.ss ∧ s.st = 4 ∧ s.nm < num) ∧ num = P.n
          · rw [if_pos c5]
            refine fgd_other hP.c ?_ hP.n (by omega)
            show (dlatch (don { s with nm := P.n }) 80).ss < _
            rw [(dlatch_flds _ _).2.1]
            exact hss
          · rw [if_neg c5] at h; exact absurd h (by show (130 : Int) ≠ 0; omega)
theorem fgd_recv {P : Pm} {mx n : Nat} {s : Sd} (hP : Pok P) (hv : Iv P s) (M : Mo mx n s) (len : Nat) (bs : Nat → Nat) (h : (drecv P mx n s len bs).e = 0) : Fgd P (drecv P mx n s len bs) := by
  unfold drecv at *
  by_cases h6 : s.st = 6
  · rw [if_pos h6] at h; exact absurd h (by show (70 : Int) ≠ 0; omega)
  · rw [if_neg h6] at h ⊢
    by_cases he : (dhear P mx n s len bs).e ≠ 0 ∧ (dhear P mx n s len bs).e ≠ 70
    · rw [if_pos he] at h; exact absurd h he.1
    · rw [if_neg he] at h ⊢
      unfold dhear at *
      split at h
      · rename_i hd; exact absurd h hd
      · rename_i hd
        rw [if_neg hd]
        split at h
        · exact absurd h (by show (43 : Int) ≠ 0; omega)
        · rename_i hk
          rw [if_neg hk]
          split at h
          · exact absurd h (by show (44 : Int) ≠ 0; omega)
          · rename_i hc
            rw [if_neg hc]
            exact fgd_take hP hv M h6 _ _ _ _ _ _ h
def Hrd (w0 w : World) (L : Pl) (s : Sd) (f : Fm) (av : Option Addr) (cv : Nat) (ax : Option Addr) (cx : Nat) : Prop :=
  Calls Tryz.prog 25 #[.pointer (some ⟨L.e, 0, none⟩), .slice av f.1 cv] w fun e w' => ∃ v, e = .returned (.tuple #[v, .int .i64 (drecv L.P L.mx L.n s f.1 f.2).e]) ∧ Hid (Two w0 w' L (drecv L.P L.mx L.n s f.1 f.2).s ∧ Row8 w' ax (drecv L.P L.mx L.n s f.1 f.2).f.1 cx (drecv L.P L.mx L.n s f.1 f.2).f.2)
theorem recv_two (w0 w wb : World) (L : Pl) (s : Sd) (f : Fm) (av : Option Addr) (cv : Nat) (a3 : Option Addr) (c3 : Nat) (U V : List Nat) (T0 : Bt w0 wb L s s [] U V) (b : Below wb.heap.size wb w) (hfar : ∀ y, av = some y → wb.heap.size ≤ y.block) (rv : Row8 w av f.1 cv f.2) (r3 : Row8 w a3 f.1 c3 f.2) (hv : Iv L.P s) (hL : s.L.length < 800000) (ht : s.ms.t < 9223372036854774000) :
    Calls Tryz.prog 24 #[.pointer (some ⟨L.d, 0, none⟩), .slice a3 f.1 c3] w fun e w' => ∃ ax cx, e = .returned (.tuple #[.slice ax (drecv L.P L.mx L.n s f.1 f.2).f.1 cx, .int .i64 (drecv L.P L.mx L.n s f.1 f.2).e]) ∧ Hid (Hrd w0 w' L s f av cv ax cx) := by
  have T := T0.below b
  obtain ⟨B, y⟩ := id T.dv
  have hP := y.pok
  have hby := drecv_byte L.P L.mx L.n s y.apb f.1 f.2
  refine (receive4_any L.d L.m L.g L.n L.mx L.P U s a3 f.1 c3 f.2 w T.dv r3 (hv.sent hP) hv.od hL ht).mono ?_
  rintro e w4 ⟨vx, rfl, h4⟩
  obtain ⟨U4, g4, x4, fx, kx⟩ := h4.out
  have T4 := T.dev g4 x4
  obtain ⟨ax, cx, rfl, _⟩ := fx.row hby
  refine ⟨ax, cx, rfl, ?_⟩
  refine (rreceive_any L.e L.r L.q L.n L.mx L.P V s av f.1 cv f.2 w4 T4.rw (rv.off g4.off (fun y hy hm => ?_)) (hv.sent hP) hv.od hL ht hv.ss).mono ?_
  · have := hfar y hy
    have := T0.dv.ult _ hm
    omega
  rintro e w5 ⟨vy, rfl, h5⟩
  obtain ⟨V5, g5, x5, fy, ky⟩ := h5.out
  have T5 := T4.ref g5 x5
  have fx5 : Fr w5 w.heap.size (.slice ax (drecv L.P L.mx L.n s f.1 f.2).f.1 cx) (drecv L.P L.mx L.n s f.1 f.2).f := own_offk fx g5.off (fun k hk hm => by
    have := fx.ge k hk
    have := T.rw.ult k hm
    omega)
  obtain ⟨ax', cx', ex, rx⟩ := fx5.row hby
  simp only [Value.slice.injEq, true_and] at ex
  obtain ⟨rfl, rfl⟩ := ex
  exact ⟨vy, rfl, ⟨U4, V5, T5⟩, rx⟩
theorem refDec_any (a : Option Addr) (len cap : Nat) (bs : Nat → Nat) (w : World) (hr : Row8 w a len cap bs) :
    Calls Tryz.prog 30 #[.slice a len cap] w fun e w' => ∃ (v0 v1 v2 v3 v4 : Int) (a' : Option Addr) (l' c' : Nat), e = .returned (.tuple #[.agg #[.int .i64 v0, .int .u32 v1, .int .u32 v2, .int .u32 v3, .int .i64 v4, .slice a' l' c'], .int .i64 (DE bs len)]) ∧ Below w.heap.size w w' := by
  by_cases h : DE bs len = 0
  · refine (refDec_ok a len cap bs w hr h).mono ?_
    rintro e w' ⟨a', c', rfl, g⟩
    exact ⟨_, _, _, _, _, a', _, c', by rw [h], g.out.2⟩
  · refine (refDec_no a len cap bs w hr h).mono ?_
    rintro e w' ⟨rfl, g⟩
    exact ⟨_, _, _, _, _, _, _, _, rfl, g⟩
theorem tick_ap (P : Pm) (s : Sd) (k : Int) : (dtickS P s k).ap = s.ap ∧ (dtickS P s k).hd = s.hd ∧ (dtickS P s k).st = s.st := by
  unfold dtickS
  split
  · exact ⟨rfl, rfl, rfl⟩
  · split
    · exact ⟨rfl, rfl, rfl⟩
    · split
      · obtain ⟨a, b⟩ := dlatch_ap { s with dc := tk P.t s.dc k.toNat } 100
        exact ⟨a, b, dlatch_st _ _⟩
      · exact ⟨rfl, rfl, rfl⟩
theorem ack_ap (s : Sd) : (dackS s).ap = s.ap ∧ (dackS s).hd = s.hd ∧ (dackS s).st = s.st := by
  unfold dackS
  split <;> exact ⟨rfl, rfl, rfl⟩
theorem call_ap13 {L : Pl} {s s' : Sd} {K N fl : Int} {odd : Bool} {len : Nat} {bs : Nat → Nat} {x : Nat} (o : Osx L s K N fl odd len bs x s') (h7 : ¬ (1 ≤ K ∧ K ≤ 7)) (h9 : K ≠ 9) (h11 : K ≠ 11) : s'.ap = s.ap ∧ s'.hd = s.hd ∧ s'.st = s.st := by
  obtain ⟨_, o8, _, o10, _, o12, oN⟩ := o
  by_cases h8 : K = 8
  · rw [o8 h8]; exact tick_ap _ _ _
  · by_cases h10 : K = 10
    · rw [o10 h10]; exact ack_ap _
    · by_cases h12 : K = 12
      · rw [o12 h12]; exact ⟨rfl, rfl, rfl⟩
      · rw [oN (by omega)]; exact ⟨rfl, rfl, rfl⟩
theorem frame_all13L (d m g n mx : Nat) (P : Pm) (U : List Nat) (s : Sd) (K N fl : Int) (odd : Bool) (a : Option Addr) (len cap : Nat) (bs : Nat → Nat) (p : Int) (x : Nat) (w : World) (h : RW w d m g n mx P U s) (hr : Row8 w a len cap bs) (ha : ∀ y, a = some y → 0 < len → y.block < w.heap.size) (hss : s.ss < 4294967296) (hx : x < 4294967296) (hlen : len ≤ 140737488351232) :
    Calls Tryz.prog 23 #[.pointer (some ⟨d, 0, none⟩), .agg #[.int .i64 K, .int .i64 N, .int .i64 fl, .bool odd, .slice a len cap, .int .i64 p, .int .u32 (x : Nat)]] w fun e w' => ∃ (av : Option Addr) (f : Fm) (cv : Nat) (ib : Bool), e = .returned (.tuple #[.slice av f.1 cv, .bool ib]) ∧ Hid (ib = decide (1 ≤ K ∧ K ≤ 7) ∧ Row8 w' av f.1 cv f.2 ∧ f.1 ≤ 140737488351232 ∧ Below w.heap.size w w' ∧ (∀ y, av = some y → w.heap.size ≤ y.block ∧ y.block < w'.heap.size) ∧ (1 ≤ K ∧ K ≤ 7 → Fo P s K N fl odd len bs x f) ∧ (¬ (1 ≤ K ∧ K ≤ 7) → DE f.2 f.1 ≠ 0)) := by
  by_cases hK : 1 ≤ K ∧ K ≤ 7
  · refine (frame_op d m g n mx P U s K N fl odd a len cap bs p x w h hr ha hss hx hlen hK).mono ?_
    rintro e w' ⟨v, rfl, h2⟩
    obtain ⟨b2, f, F2, y2, l2, fo⟩ := h2.out
    obtain ⟨av, cv, rfl, rv⟩ := F2.row y2
    exact ⟨av, f, cv, true, rfl, (decide_eq_true hK).symm, rv, l2, b2, fun y hy => own_far F2 y hy, fun _ => fo, fun k => absurd hK k⟩
  · refine (frameN_any d m g n mx P U s K N fl odd a len cap bs p x w h hr ha hss hK).mono ?_
    rintro e w' ⟨rfl, b2⟩
    exact ⟨none, fm0, 0, false, rfl, (decide_eq_false hK).symm, row_nilX _ _, Nat.zero_le _, b2, (fun y hy => by cases hy), fun k => absurd k hK, fun _ => by show DE (fun _ => 0) 0 ≠ 0; decide⟩
end Go.Proofs.YtndjepeolamedaaGreat
namespace Go.Proofs.YtndjepeolamedaaGreat
set_option maxRecDepth 100000
open Go.RowKit
theorem drecv_enc (P : Pm) (hP : Pok P) (mx n : Nat) (s : Sd) (k ss num fl len : Nat) (bs : Nat → Nat) (hk : hostK k = true) (hE : LW k P.c ss num fl len len = 0) (hss : ss < 4294967296) (hnum : num < 4294967296) (hu : s.st ≠ 6) :
    ∃ bs' : Nat → Nat, (∀ i, i < len → bs' i = bs i) ∧ (drecv P mx n s (encF k P.c ss num fl len bs).1 (encF k P.c ss num fl len bs).2).s = (if (dtake P mx n s k ss num fl len bs').e ≠ 0 ∧ (dtake P mx n s k ss num fl len bs').e ≠ 70 then dnote (dtake P mx n s k ss num fl len bs').s (dtake P mx n s k ss num fl len bs').e else (dtake P mx n s k ss num fl len bs').s) := by
  have hl : len ≤ 8 := by have := (LW_zero hE).2.2.2.1; omega
  obtain ⟨e1, e2, e3, e4, e5, e6, e7⟩ := DE_back k P.c ss num fl len bs hP.c hss hnum hl hE
  have hF : encF k P.c ss num fl len bs = (15 + len + 4, PM.sl (fr k P.c ss num fl len bs) (15 + len)) := if_pos hE
  rw [hF]
  generalize PM.sl (fr k P.c ss num fl len bs) (15 + len) = SL at *
  refine ⟨fun i => SL (15 + i), e7, ?_⟩
  have hh : dhear P mx n s (15 + len + 4) SL = dtake P mx n s k ss num fl len (fun i => SL (15 + i)) := by
    unfold dhear
    rw [if_neg (by omega), if_neg (by rw [e2, hk]; simp), if_neg (by omega), e2, e4, e5, e6, show 15 + len + 4 - 19 = len by omega]
  show (drecv P mx n s (15 + len + 4) SL).s = _
  unfold drecv
  rw [if_neg hu, hh]
  split <;> rfl
structure Gp (s : Sd) (st od nm : Nat) : Prop where
  st : s.st = st
  ss : s.ss = 1
  od : s.od = od
  nm : s.nm = nm
  vz : vz s.ms.bs = 1
  ar : s.ms.ar = false
  lat : s.v.lat = 0
theorem nx_ar {mx n : Nat} {s : Ms} (hn : 10 ≤ n) (ho : s.off = false) (hl : 0 ≤ s.l) (ha : s.ar = false) (hm : vz s.bs < mx) : (nx mx n s.bs false s).e = 0 ∧ (nx mx n s.bs false s).s.ar = false := by
  unfold nx
  rw [if_neg (by simp [ho]), if_neg (by omega)]
  rcases sq_all n (six (tg s.bs) (vz s.bs + 1)) s (fun x hx => (six_in _ _ n (tg_lt _) hn x hx).1) ho hl with ⟨h1, h2, _⟩ | ⟨_, _, h3, _⟩
  · rw [if_pos h1]
    refine ⟨rfl, ?_⟩
    show (sqS n (six (tg s.bs) (vz s.bs + 1)) s).ar = false
    rw [h2]; exact ha
  · rw [ha] at h3; cases h3
theorem vrun_lat (v : Vs) (o : Bool) : (vrun v o).lat = v.lat := by unfold vrun; split <;> rfl
theorem vtake_lat (v : Vs) (bs : Nat → Nat) : (vtake v bs).lat = v.lat := by unfold vtake; split <;> rfl
theorem wish_F : encI 1 P0.c 0 0 0 4 (osig P0 false) = wishF P0 := by rw [osig_f]; exact wish_enc P0 P0_ok
theorem g1 {f : Fm} (hf : f = encI 1 P0.c 0 0 0 4 (osig P0 false)) : Gp (drecv P0 99 16 (dnew M0) f.1 f.2).s 2 0 0 := by
  rw [hf, wish_F]
  obtain ⟨n1, n2⟩ := nx_ar (mx := 99) (n := 16) (s := M0) (by omega) rfl (by decide) rfl (by decide)
  have hv := (nx_vz (mx := 99) (n := 16) (s := M0) (by omega) rfl (by decide) (by omega)).1 n1
  have hz : vz M0.bs = 0 := by decide
  have hb : dbegin P0 99 16 (dnew M0) = ⟨{ dleave { dnew M0 with ms := (nx 99 16 M0.bs false M0).s } 2 with ss := (nx 99 16 M0.bs false M0).v }, doffer P0 { dleave { dnew M0 with ms := (nx 99 16 M0.bs false M0).s } 2 with ss := (nx 99 16 M0.bs false M0).v }, 0⟩ := by
    unfold dbegin
    have e1 : (nx 99 16 (dnew M0).ms.bs false (dnew M0).ms).e = 0 := n1
    rw [if_neg (by rw [e1]; decide), if_neg (by rw [e1]; decide)]
    rfl
  have hw : dwish P0 99 16 (dnew M0) = dbegin P0 99 16 (dnew M0) := rfl
  unfold drecv
  rw [if_neg (by show (1 : Nat) ≠ 6; omega), hear_wish P0 P0_ok, hw, hb, if_neg (by rintro ⟨e, _⟩; exact e rfl)]
  generalize nx 99 16 M0.bs false M0 = X at *
  exact ⟨rfl, by show X.v = 1; omega, rfl, rfl, by show vz X.s.bs = 1; omega, n2, rfl⟩
theorem g2 {s : Sd} (h : Gp s 2 0 0) {f : Fm} (hf : f = encI 2 P0.c s.ss 0 0 4 (dsg P0)) : Gp (drecv P0 99 16 s f.1 f.2).s 3 0 0 := by
  rw [hf, h.ss]
  obtain ⟨bs', hb, e⟩ := drecv_enc P0 P0_ok 99 16 s 2 1 0 0 4 (dsg P0) rfl (by decide) (by omega) (by omega) (by rw [h.st]; omega)
  have hs : dsigned P0 4 bs' = true := decide_eq_true (BA_congr _ _ 4 hb)
  have ht : dtake P0 99 16 s 2 1 0 0 4 bs' = ⟨dechoS s, dsay P0 (dechoS s) 18 0 0 0 (fun _ => 0), 0⟩ := by
    unfold dtake
    rw [if_neg (by omega), if_pos ⟨rfl, h.ss.symm, .inl h.st⟩, if_pos hs]
  rw [ht, if_neg (by rintro ⟨e, _⟩; exact e rfl)] at e
  have e' : (drecv P0 99 16 s (encI 2 P0.c 1 0 0 4 (dsg P0)).1 (encI 2 P0.c 1 0 0 4 (dsg P0)).2).s = dechoS s := e
  rw [e', show dechoS s = don { s with st := 3 } from if_pos h.st]
  exact ⟨rfl, h.ss, rfl, h.nm, h.vz, h.ar, h.lat⟩
theorem g3 {s : Sd} (h : Gp s 3 0 0) {f : Fm} (hf : f = encI 3 P0.c (oses s false) 0 0 0 (fun _ => 0)) : Gp (drecv P0 99 16 s f.1 f.2).s 4 0 0 := by
  rw [hf, oses_false, h.ss]
  obtain ⟨bs', hb, e⟩ := drecv_enc P0 P0_ok 99 16 s 3 1 0 0 0 (fun _ => 0) rfl (by decide) (by omega) (by omega) (by rw [h.st]; omega)
  have ht : dtake P0 99 16 s 3 1 0 0 0 bs' = ⟨dstartS s, dsay P0 (dstartS s) 19 0 0 0 (fun _ => 0), 0⟩ := by
    unfold dtake
    rw [if_neg (by omega), if_neg (by omega), if_pos ⟨rfl, h.ss.symm, .inl h.st⟩]
  rw [ht, if_neg (by rintro ⟨e, _⟩; exact e rfl)] at e
  have e' : (drecv P0 99 16 s (encI 3 P0.c 1 0 0 0 (fun _ => 0)).1 (encI 3 P0.c 1 0 0 0 (fun _ => 0)).2).s = dstartS s := e
  rw [e', show dstartS s = don { s with st := 4, v := vrun s.v true } from if_pos h.st]
  exact ⟨rfl, h.ss, rfl, h.nm, h.vz, h.ar, (vrun_lat _ _).trans h.lat⟩
theorem g4 {s : Sd} (h : Gp s 4 0 0) {f : Fm} {bs : Nat → Nat} (hf : f = encI 4 P0.c (oses s false) (onum s 1) 0 2 bs) : Gp (drecv P0 99 16 s f.1 f.2).s 4 0 1 := by
  have hn : onum s 1 = 1 := by unfold onum; rw [h.nm]; rfl
  rw [hf, oses_false, h.ss, hn]
  obtain ⟨bs', hb, e⟩ := drecv_enc P0 P0_ok 99 16 s 4 1 1 0 2 bs rfl (by decide) (by omega) (by omega) (by rw [h.st]; omega)
  have ht : dtake P0 99 16 s 4 1 1 0 2 bs' = ⟨ddataS s 1 0 bs', dsay P0 (ddataS s 1 0 bs') 20 (s.sn + 1) (dflags (ddataS s 1 0 bs')) P0.i s.ap, 0⟩ := by
    unfold dtake
    rw [if_neg (by omega), if_neg (by omega), if_neg (by omega), if_pos ⟨rfl, ⟨h.ss.symm, h.st, by rw [h.nm]; omega⟩, by decide, rfl⟩]
  rw [ht, if_neg (by rintro ⟨e, _⟩; exact e rfl)] at e
  have e' : (drecv P0 99 16 s (encI 4 P0.c 1 1 0 2 bs).1 (encI 4 P0.c 1 1 0 2 bs).2).s = ddataS s 1 0 bs' := e
  rw [e']
  exact ⟨h.st, h.ss, rfl, rfl, h.vz, h.ar, (vtake_lat _ _).trans h.lat⟩
end Go.Proofs.YtndjepeolamedaaGreat
namespace Go.Proofs.YtndjepeolamedaaGreat
set_option maxRecDepth 100000
open Go.RowKit
def rpF (k : Nat) : Fm := if k = 1 then encF 17 P0.c 1 0 0 4 (dsg P0) else encF (16 + k) P0.c 1 0 0 0 (fun _ => 0)
structure Rq (s : Sd) (k od : Nat) : Prop where
  st : s.st = k + 1
  ss : s.ss = 1
  od : s.od = od
  nm : s.nm = 0
theorem drecv_encR (P : Pm) (hP : Pok P) (mx n : Nat) (s : Sd) (k ss num fl len : Nat) (bs : Nat → Nat) (hk : hostK k = true) (hE : LW k P.c ss num fl len len = 0) (hss : ss < 4294967296) (hnum : num < 4294967296) (hu : s.st ≠ 6) :
    ∃ bs' : Nat → Nat, (∀ i, i < len → bs' i = bs i) ∧ drecv P mx n s (encF k P.c ss num fl len bs).1 (encF k P.c ss num fl len bs).2 = (if (dtake P mx n s k ss num fl len bs').e ≠ 0 ∧ (dtake P mx n s k ss num fl len bs').e ≠ 70 then ⟨dnote (dtake P mx n s k ss num fl len bs').s (dtake P mx n s k ss num fl len bs').e, (dtake P mx n s k ss num fl len bs').f, (dtake P mx n s k ss num fl len bs').e⟩ else dtake P mx n s k ss num fl len bs') := by
  have hl : len ≤ 8 := by have := (LW_zero hE).2.2.2.1; omega
  obtain ⟨e1, e2, e3, e4, e5, e6, e7⟩ := DE_back k P.c ss num fl len bs hP.c hss hnum hl hE
  have hF : encF k P.c ss num fl len bs = (15 + len + 4, PM.sl (fr k P.c ss num fl len bs) (15 + len)) := if_pos hE
  rw [hF]
  generalize PM.sl (fr k P.c ss num fl len bs) (15 + len) = SL at *
  refine ⟨fun i => SL (15 + i), e7, ?_⟩
  have hh : dhear P mx n s (15 + len + 4) SL = dtake P mx n s k ss num fl len (fun i => SL (15 + i)) := by
    unfold dhear
    rw [if_neg (by omega), if_neg (by rw [e2, hk]; simp), if_neg (by omega), e2, e4, e5, e6, show 15 + len + 4 - 19 = len by omega]
  show drecv P mx n s (15 + len + 4) SL = _
  unfold drecv
  rw [if_neg hu, hh]
theorem rp1 {f : Fm} (hf : f = encI 1 P0.c 0 0 0 4 (osig P0 false)) : (drecv P0 9 16 (dnew M0) f.1 f.2).e = 0 ∧ (drecv P0 9 16 (dnew M0) f.1 f.2).f = rpF 1 ∧ Rq (drecv P0 9 16 (dnew M0) f.1 f.2).s 1 0 := by
  rw [hf, wish_F]
  obtain ⟨n1, n2⟩ := nx_ar (mx := 9) (n := 16) (s := M0) (by omega) rfl (by decide) rfl (by decide)
  have hv := (nx_vz (mx := 9) (n := 16) (s := M0) (by omega) rfl (by decide) (by omega)).1 n1
  have hz : vz M0.bs = 0 := by decide
  have hb : dbegin P0 9 16 (dnew M0) = ⟨{ dleave { dnew M0 with ms := (nx 9 16 M0.bs false M0).s } 2 with ss := (nx 9 16 M0.bs false M0).v }, doffer P0 { dleave { dnew M0 with ms := (nx 9 16 M0.bs false M0).s } 2 with ss := (nx 9 16 M0.bs false M0).v }, 0⟩ := by
    unfold dbegin
    have e1 : (nx 9 16 (dnew M0).ms.bs false (dnew M0).ms).e = 0 := n1
    rw [if_neg (by rw [e1]; decide), if_neg (by rw [e1]; decide)]
    rfl
  have hw : dwish P0 9 16 (dnew M0) = dbegin P0 9 16 (dnew M0) := rfl
  have hX : (nx 9 16 M0.bs false M0).v = 1 := by omega
  have e : drecv P0 9 16 (dnew M0) (wishF P0).1 (wishF P0).2 = dbegin P0 9 16 (dnew M0) := by
    unfold drecv
    rw [if_neg (by show (1 : Nat) ≠ 6; omega), hear_wish P0 P0_ok, hw, hb, if_neg (by rintro ⟨e, _⟩; exact e rfl)]
  rw [e, hb, hX]
  exact ⟨rfl, rfl, ⟨rfl, rfl, rfl, rfl⟩⟩
theorem rp2 {s : Sd} {k od : Nat} (hk : k = 1 ∨ k = 2) (h : Rq s k od) {f : Fm} (hf : f = encI 2 P0.c s.ss 0 0 4 (dsg P0)) : (drecv P0 9 16 s f.1 f.2).e = 0 ∧ (drecv P0 9 16 s f.1 f.2).f = rpF 2 ∧ (drecv P0 9 16 s f.1 f.2).s = dechoS s := by
  have hst := h.st
  have hss := h.ss
  rw [hf, hss]
  obtain ⟨bs', hb, e⟩ := drecv_encR P0 P0_ok 9 16 s 2 1 0 0 4 (dsg P0) rfl (by decide) (by omega) (by omega) (by omega)
  have hs : dsigned P0 4 bs' = true := decide_eq_true (BA_congr _ _ 4 hb)
  have ht : dtake P0 9 16 s 2 1 0 0 4 bs' = ⟨dechoS s, dsay P0 (dechoS s) 18 0 0 0 (fun _ => 0), 0⟩ := by
    unfold dtake
    rw [if_neg (by omega), if_pos ⟨rfl, hss.symm, by omega⟩, if_pos hs]
  rw [ht, if_neg (by rintro ⟨e, _⟩; exact e rfl)] at e
  have e' : drecv P0 9 16 s (encI 2 P0.c 1 0 0 4 (dsg P0)).1 (encI 2 P0.c 1 0 0 4 (dsg P0)).2 = ⟨dechoS s, dsay P0 (dechoS s) 18 0 0 0 (fun _ => 0), 0⟩ := e
  rw [e']
  have hs2 : (dechoS s).ss = 1 := by unfold dechoS; split <;> exact hss
  refine ⟨rfl, ?_, rfl⟩
  show encF 18 P0.c (dechoS s).ss 0 0 0 (fun _ => 0) = rpF 2
  rw [hs2]; rfl
theorem rp3 {s : Sd} {k od : Nat} (hk : k = 2 ∨ k = 3) (h : Rq s k od) {f : Fm} (hf : f = encI 3 P0.c (oses s false) 0 0 0 (fun _ => 0)) : (drecv P0 9 16 s f.1 f.2).e = 0 ∧ (drecv P0 9 16 s f.1 f.2).f = rpF 3 ∧ (drecv P0 9 16 s f.1 f.2).s = dstartS s := by
  have hst := h.st
  have hss := h.ss
  have hnm := h.nm
  rw [hf, oses_false, hss]
  obtain ⟨bs', hb, e⟩ := drecv_encR P0 P0_ok 9 16 s 3 1 0 0 0 (fun _ => 0) rfl (by decide) (by omega) (by omega) (by omega)
  have ht : dtake P0 9 16 s 3 1 0 0 0 bs' = ⟨dstartS s, dsay P0 (dstartS s) 19 0 0 0 (fun _ => 0), 0⟩ := by
    unfold dtake
    rw [if_neg (by omega), if_neg (by omega), if_pos ⟨rfl, hss.symm, by omega⟩]
  rw [ht, if_neg (by rintro ⟨e, _⟩; exact e rfl)] at e
  have e' : drecv P0 9 16 s (encI 3 P0.c 1 0 0 0 (fun _ => 0)).1 (encI 3 P0.c 1 0 0 0 (fun _ => 0)).2 = ⟨dstartS s, dsay P0 (dstartS s) 19 0 0 0 (fun _ => 0), 0⟩ := e
  rw [e']
  have hs2 : (dstartS s).ss = 1 := by unfold dstartS; split <;> exact hss
  refine ⟨rfl, ?_, rfl⟩
  show encF 19 P0.c (dstartS s).ss 0 0 0 (fun _ => 0) = rpF 3
  rw [hs2]; rfl
def Rk (k : Nat) (s : Sd) : Prop := (k = 1 → s = dnew M0) ∧ (2 ≤ k → Rq s (k - 1) 0)
theorem Rk.next {k : Nat} {s : Sd} (h : Rk k s) (hk : 1 ≤ k ∧ k ≤ 3) {bs : Nat → Nat} {f : Fm} {x : Nat} (fo : Fo P0 s (k : Int) 0 0 false 0 bs x f) : (drecv P0 9 16 s f.1 f.2).e = 0 ∧ (drecv P0 9 16 s f.1 f.2).f = rpF k ∧ Rk (k + 1) (drecv P0 9 16 s f.1 f.2).s := by
  have : k = 1 ∨ k = 2 ∨ k = 3 := by omega
  rcases this with rfl | rfl | rfl
  · obtain rfl := h.1 rfl
    obtain ⟨a, b, c⟩ := rp1 (fo.1 rfl)
    exact ⟨a, b, fun e => by omega, fun _ => c⟩
  · have q := h.2 (by omega)
    obtain ⟨a, b, c⟩ := rp2 (.inl rfl) q (fo.2.1 rfl rfl)
    refine ⟨a, b, fun e => by omega, fun _ => ?_⟩
    rw [c, show dechoS s = don { s with st := 3 } from if_pos q.st]
    exact ⟨rfl, q.ss, rfl, q.nm⟩
  · have q := h.2 (by omega)
    obtain ⟨a, b, c⟩ := rp3 (.inl rfl) q (fo.2.2.1 rfl)
    refine ⟨a, b, fun e => by omega, fun _ => ?_⟩
    rw [c, show dstartS s = don { s with st := 4, v := vrun s.v true } from if_pos q.st]
    exact ⟨rfl, q.ss, rfl, q.nm⟩
def Sn (s t : Sd) : Prop := t.st = s.st ∧ t.ss = s.ss ∧ t.nm = s.nm ∧ t.sn = s.sn ∧ t.dc = s.dc ∧ t.v = s.v
theorem rp_again {k od : Nat} {s t : Sd} (hk : 1 ≤ k ∧ k ≤ 3) (hod : od < 3) (h : Rq t k od) (hn : Sn s t) {bs : Nat → Nat} {f : Fm} {x : Nat} (hs : s.ss = 1) (fo : Fo P0 s (k : Int) 0 0 false 0 bs x f) :
    (drecv P0 9 16 t f.1 f.2).e = (if k = 1 then 130 else 0) ∧ (drecv P0 9 16 t f.1 f.2).f = rpF k ∧ (∃ od', od' ≤ od + 1 ∧ Rq (drecv P0 9 16 t f.1 f.2).s k od') ∧ Sn s (drecv P0 9 16 t f.1 f.2).s := by
  have hst := h.st
  have hss := h.ss
  have : k = 1 ∨ k = 2 ∨ k = 3 := by omega
  rcases this with rfl | rfl | rfl
  · have hf := fo.1 rfl
    have hb : dbusy t = true := decide_eq_true (by omega)
    have hd : dodd t = { t with od := od + 1 } := by
      unfold dodd
      rw [if_pos hb, if_pos (by rw [h.od]; omega), h.od]
    have hw : dwish P0 9 16 t = ⟨dodd t, doffer P0 (dodd t), 130⟩ := by
      unfold dwish
      rw [if_pos (by rw [hd]; exact hst)]
    have e : drecv P0 9 16 t f.1 f.2 = ⟨dnote (dodd t) 130, doffer P0 (dodd t), 130⟩ := by
      rw [hf, wish_F]
      unfold drecv
      rw [if_neg (by omega), hear_wish P0 P0_ok, hw, if_pos ⟨by show (130 : Int) ≠ 0; omega, by show (130 : Int) ≠ 70; omega⟩]
    rw [e, hd]
    refine ⟨rfl, ?_, ⟨od + 1, Nat.le_refl _, ⟨hst, hss, rfl, h.nm⟩⟩, hn⟩
    show encF 17 P0.c t.ss 0 0 4 (dsg P0) = rpF 1
    rw [hss]; rfl
  · have hf := fo.2.1 rfl rfl
    rw [hs, ← hss] at hf
    obtain ⟨a, b, c⟩ := rp2 (.inr rfl) h hf
    have hc : dechoS t = t := if_neg (by omega)
    rw [a, b, c, hc]
    exact ⟨rfl, rfl, ⟨od, by omega, h⟩, hn⟩
  · have hf := fo.2.2.1 rfl
    have ho : oses s false = oses t false := by rw [oses_false, oses_false, hs, hss]
    rw [ho] at hf
    obtain ⟨a, b, c⟩ := rp3 (.inr rfl) h hf
    have hc : dstartS t = t := if_neg (by omega)
    rw [a, b, c, hc]
    exact ⟨rfl, rfl, ⟨od, by omega, h⟩, hn⟩
end Go.Proofs.YtndjepeolamedaaGreat
namespace Go.Proofs.YtndjepeolamedaaGreat
set_option maxRecDepth 100000
open Go.RowKit
structure Dk (s : Sd) (k : Nat) : Prop where
  st : s.st = k
  ms : k = 1 → s.ms = M0
  ss : 2 ≤ k → s.ss = 1
  nm : s.nm = 0
  lat : s.v.lat = 0
theorem dk_start (bs : Nat → Nat) : dwriteE P0 (dnew M0) 1 = 0 ∧ Dk (dwriteS P0 (dnew M0) 1 bs false) 1 := ⟨rfl, rfl, fun _ => rfl, fun e => by omega, rfl, rfl⟩
theorem dk_recv {k : Nat} {s : Sd} (hk : 1 ≤ k ∧ k ≤ 4) (hv : Iv P0 s) (h : Dk s k) {bs : Nat → Nat} {f : Fm} {x : Nat} (fo : Fo P0 s (k : Int) 1 0 false 2 bs x f) :
    (drecv P0 9 16 s f.1 f.2).e = 0 ∧ (k ≤ 3 → Dk (drecv P0 9 16 s f.1 f.2).s (k + 1)) ∧ (k = 4 → von (drecv P0 9 16 s f.1 f.2).s.v = true ∧ ∀ i, i < 2 → vout (drecv P0 9 16 s f.1 f.2).s.v i = bs i) := by
  obtain ⟨h1, hms, h2, h3, h4⟩ := h
  have : k = 1 ∨ k = 2 ∨ k = 3 ∨ k = 4 := by omega
  rcases this with rfl | rfl | rfl | rfl
  · have hf := fo.1 rfl
    have hM := hms rfl
    obtain ⟨n1, n2⟩ := nx_ar (mx := 9) (n := 16) (s := M0) (by omega) rfl (by decide) rfl (by decide)
    have hvz := (nx_vz (mx := 9) (n := 16) (s := M0) (by omega) rfl (by decide) (by omega)).1 n1
    have hz : vz M0.bs = 0 := by decide
    have hX : (nx 9 16 M0.bs false M0).v = 1 := by omega
    have hd : dodd s = s := by
      unfold dodd
      rw [if_neg (by unfold dbusy; simp; omega)]
    have hw : dwish P0 9 16 s = dbegin P0 9 16 s := by
      unfold dwish
      rw [hd, if_neg (by omega), if_neg (by omega)]
    have hb : dbegin P0 9 16 s = ⟨{ dleave { s with ms := (nx 9 16 M0.bs false M0).s } 2 with ss := (nx 9 16 M0.bs false M0).v }, doffer P0 { dleave { s with ms := (nx 9 16 M0.bs false M0).s } 2 with ss := (nx 9 16 M0.bs false M0).v }, 0⟩ := by
      unfold dbegin
      rw [hM, if_neg (by rw [n1]; decide), if_neg (by rw [n1]; decide)]
    have e : drecv P0 9 16 s f.1 f.2 = dbegin P0 9 16 s := by
      rw [hf, wish_F]
      unfold drecv
      rw [if_neg (by omega), hear_wish P0 P0_ok, hw, hb, if_neg (by rintro ⟨e, _⟩; exact e rfl)]
    rw [e, hb, hX]
    exact ⟨rfl, fun _ => ⟨rfl, fun e => by omega, fun _ => rfl, rfl, (vrun_lat _ _).trans h4⟩, fun e => by omega⟩
  · have hss := h2 (by omega)
    obtain ⟨a, b, c⟩ := rp2 (k := 1) (od := s.od) (.inl rfl) ⟨h1, hss, rfl, h3⟩ (fo.2.1 rfl rfl)
    refine ⟨a, fun _ => ?_, fun e => by omega⟩
    rw [c, show dechoS s = don { s with st := 3 } from if_pos h1]
    exact ⟨rfl, fun e => by omega, fun _ => hss, h3, h4⟩
  · have hss := h2 (by omega)
    obtain ⟨a, b, c⟩ := rp3 (k := 2) (od := s.od) (.inl rfl) ⟨h1, hss, rfl, h3⟩ (fo.2.2.1 rfl)
    refine ⟨a, fun _ => ?_, fun e => by omega⟩
    rw [c, show dstartS s = don { s with st := 4, v := vrun s.v true } from if_pos h1]
    exact ⟨rfl, fun e => by omega, fun _ => hss, h3, (vrun_lat _ _).trans h4⟩
  · have hss := h2 (by omega)
    have hf := fo.2.2.2.1 rfl
    have hn : onum s 1 = 1 := by unfold onum; rw [h3]; rfl
    rw [oses_false, hss, hn] at hf
    obtain ⟨bs', hb, e⟩ := drecv_encR P0 P0_ok 9 16 s 4 1 1 0 2 bs rfl (by decide) (by omega) (by omega) (by omega)
    have ht : dtake P0 9 16 s 4 1 1 0 2 bs' = ⟨ddataS s 1 0 bs', dsay P0 (ddataS s 1 0 bs') 20 (s.sn + 1) (dflags (ddataS s 1 0 bs')) P0.i s.ap, 0⟩ := by
      unfold dtake
      rw [if_neg (by omega), if_neg (by omega), if_neg (by omega), if_pos ⟨rfl, ⟨hss.symm, h1, by omega⟩, by decide, rfl⟩]
    rw [ht, if_neg (by rintro ⟨e, _⟩; exact e rfl)] at e
    have e' : drecv P0 9 16 s (encI 4 P0.c 1 1 0 2 bs).1 (encI 4 P0.c 1 1 0 2 bs).2 = ⟨ddataS s 1 0 bs', dsay P0 (ddataS s 1 0 bs') 20 (s.sn + 1) (dflags (ddataS s 1 0 bs')) P0.i s.ap, 0⟩ := e
    rw [hf, e']
    refine ⟨rfl, fun e => by omega, fun _ => ?_⟩
    have hrun : s.v.run = true := by rw [hv.vr, h1]; rfl
    have hE : (ddataS s 1 0 bs').v = vtake (vhold (vfresh s.v) false) bs' := rfl
    show von (ddataS s 1 0 bs').v = true ∧ ∀ i, i < 2 → vout (ddataS s 1 0 bs').v i = bs i
    rw [hE]
    have hbb : vtake (vhold (vfresh s.v) false) bs' = { vhold (vfresh s.v) false with sm := true, bs := bs' } := by
      unfold vtake
      rw [if_pos ⟨hrun, h4⟩]
    have ho : von (vtake (vhold (vfresh s.v) false) bs') = true := by
      rw [hbb]
      unfold von
      show (s.v.run && (!(false && s.v.run) && true)) = true
      rw [hrun]; rfl
    refine ⟨ho, fun i hi => ?_⟩
    unfold vout
    rw [ho, if_pos rfl, hbb]
    exact hb i hi
end Go.Proofs.YtndjepeolamedaaGreat
