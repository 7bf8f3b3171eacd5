/- Part 35 of the texts on which the proofs of layer 13 rest: contracts of Go functions. -/
import Derived.Deep.RegionHeld3
import Derived.WalkKit
import Derived.ProofKit
import Derived.SizedLaws
import Derived.Lib.SmallJoins
import Derived.Deep.Slices
import Derived.OpenShut
import Derived.Test.YtndjepeolamedaaGreatPkB00
import Derived.Test.YtndjepeolamedaaGreatPkB16
import Derived.Test.YtndjepeolamedaaGreatPkB20
import Derived.Test.YtndjepeolamedaaGreatPkB33
namespace Go.Proofs.YtndjepeolamedaaGreat
set_option maxRecDepth 100000
open Go.RowKit
set_option maxHeartbeats 6400000 in
theorem step9_any (w0 w : World) (L : Pl) (s : Sd) (N fl : Int) (odd : Bool) (a : Option Addr) (len cap : Nat) (bs : Nat → Nat) (p : Int) (x : Nat) (h : Two w0 w L s) (hr : Row8 w a len cap bs) (hl : ∀ y, a = some y → 0 < len → y.block < w0.heap.size) (hss : s.ss < 4294967296) (hlen : len ≤ 140737488351232) :
    Calls Tryz.prog 29 #[.pointer (some ⟨L.d, 0, none⟩), .pointer (some ⟨L.m, 0, none⟩), .pointer (some ⟨L.e, 0, none⟩), .agg #[.int .i64 9, .int .i64 N, .int .i64 fl, .bool odd, .slice a len cap, .int .i64 p, .int .u32 (x : Nat)]] w fun e w' => e = .returned (.bool true) ∧ Hid (Two w0 w' L (dwriteS L.P s len bs odd)) := by
  have P0 := h.ph #[.int .i64 9, .int .i64 N, .int .i64 fl, .bool odd, .slice a len cap, .int .i64 p, .int .u32 (x : Nat)] hr hl
  obtain ⟨V, rv, _⟩ := P0.ref
  have hFr := frameN_any L.e L.r L.q L.n L.mx L.P V s 9 N fl odd a len cap bs p x (w.alloc (.cells #[.int .i64 9, .int .i64 N, .int .i64 fl, .bool odd, .slice a len cap, .int .i64 p, .int .u32 (x : Nat)] 50)) rv P0.row (fun y hy h0 => by
    obtain ⟨U', V', T⟩ := P0.bt
    have := hl y hy h0; have := T.bel.size; omega) hss (by omega)
  have HP : Hid (_) := P0
  have HL : Hid (_) := hlen
  clear h hr hl hss P0 rv hlen
  go_enter Tryz.func29, Tryz.ntmps29
  go_wp2_with (go_at_call 23; refine hFr.mono ?_; rintro e w2 ⟨rfl, b2⟩; have P2 := HP.out.below b2; have c0 : w2.cell? ⟨w.heap.size, 0, none⟩ = some (.int .i64 9) := cell_of_row w2 _ 0 _ _ _ P2.bx; have H2 : Hid (_) := P2; clear P2 b2 hFr HP)
  clear c0
  have hbd := build0D
  have cA := fun t wx (hx : Ph w0 wx L s t w.heap.size #[.int .i64 9, .int .i64 N, .int .i64 fl, .bool odd, .slice a len cap, .int .i64 p, .int .u32 (x : Nat)] a len cap bs) a' c' (hr' : Row8 wx a' len c' bs) => (by
    obtain ⟨U, hd, hk⟩ := hx.dev
    refine (dvwrite_any L.d L.m L.g L.n L.mx L.P U s a' len c' bs odd wx hd hr').mono ?_
    rintro e w' ⟨rfl, h5⟩
    obtain ⟨U', g5, x5⟩ := h5.out
    exact ⟨rfl, hk U' w' _ g5 x5⟩ : Calls Tryz.prog 20 #[.pointer (some ⟨L.d, 0, none⟩), .slice a' len c', .bool odd] wx fun e w' => e = .returned (.int .i64 (dwriteE L.P s len)) ∧ Ph w0 w' L (dwriteS L.P s len bs odd) t w.heap.size #[.int .i64 9, .int .i64 N, .int .i64 fl, .bool odd, .slice a len cap, .int .i64 p, .int .u32 (x : Nat)] a len cap bs)
  have cB := fun t wx (hx : Ph w0 wx L t s w.heap.size #[.int .i64 9, .int .i64 N, .int .i64 fl, .bool odd, .slice a len cap, .int .i64 p, .int .u32 (x : Nat)] a len cap bs) => (by
    obtain ⟨U, hd, hk⟩ := hx.ref
    refine (rvwrite_any L.e L.r L.q L.n L.mx L.P U s a len cap bs odd wx hd hx.row).mono ?_
    rintro e w' ⟨rfl, h5⟩
    obtain ⟨U', g5, x5⟩ := h5.out
    exact ⟨rfl, hk U' w' _ g5 x5⟩ : Calls Tryz.prog 21 #[.pointer (some ⟨L.e, 0, none⟩), .slice a len cap, .bool odd] wx fun e w' => e = .returned (.int .i64 (dwriteE L.P s len)) ∧ Ph w0 w' L t (dwriteS L.P s len bs odd) w.heap.size #[.int .i64 9, .int .i64 N, .int .i64 fl, .bool odd, .slice a len cap, .int .i64 p, .int .u32 (x : Nat)] a len cap bs)
  have HSall : ∀ wx, Below w2.heap.size w2 wx → wx.cell? ⟨w.heap.size, 3, none⟩ = some (.bool odd) ∧ wx.cell? ⟨w.heap.size, 4, none⟩ = some (.slice a len cap) := fun wx b => ⟨cell_of_row wx _ 3 _ _ _ (H2.out.below b).bx, cell_of_row wx _ 4 _ _ _ (H2.out.below b).bx⟩
  have hRw : ∀ wx, Below w2.heap.size w2 wx → Row8 wx a len cap bs := fun wx b => H2.out.row.below b
  have HS := HSall w2.drew (Below.drew (Below.refl _ _))
  obtain ⟨s2, hs2⟩ : ∃ S, dwriteS L.P s len bs odd = S := ⟨_, rfl⟩
  obtain ⟨r, hr2⟩ : ∃ S, dwriteE L.P s len = S := ⟨_, rfl⟩
  rw [hs2, hr2] at cA cB
  have HE : Hid (_) := hs2
  have hlen := HL.out
  clear hs2 hr2
  go_region_held3 (fun w' => w'.cell? ⟨w.heap.size, 3, none⟩ = some (.bool odd) ∧ w'.cell? ⟨w.heap.size, 4, none⟩ = some (.slice a len cap)) (first | with_reducible assumption | exact HSall _ (by repeat (first | with_reducible assumption | with_reducible refine below_drewN ?_ _ | with_reducible refine Below.drew ?_ | with_reducible refine belowA ?_ _ | with_reducible exact Below.refl _ _))) (first
    | (refine step_append8L rfl (.tmp 62) (.tmp 64) rfl w2.heap.size _ rfl (by first | exact own0L _ _ (Nat.le_refl _) | exact own0Ld _ _ (Nat.le_refl _)) a len cap bs rfl (hRw _ (by repeat (first | with_reducible assumption | with_reducible refine below_drewN ?_ _ | with_reducible refine Below.drew ?_ | with_reducible refine belowA ?_ _ | with_reducible exact Below.refl _ _))) hlen w2 (by repeat (first | with_reducible assumption | with_reducible refine below_drewN ?_ _ | with_reducible refine Below.drew ?_ | with_reducible refine belowA ?_ _ | with_reducible exact Below.refl _ _)) (Nat.le_refl _) ?_; intro a3 c3 w3 H3 b3; have cC := cA _ w3 (H2.out.below b3) a3 c3 (own_slice8 H3.out H2.out.row.byte))
    | (go_at_call 20; refine cC.mono ?_; rintro e w4 ⟨rfl, h4⟩; have HT4 : w4.cell? ⟨w.heap.size, 3, none⟩ = some (.bool odd) ∧ w4.cell? ⟨w.heap.size, 4, none⟩ = some (.slice a len cap) := ⟨cell_of_row w4 _ 3 _ _ _ h4.bx, cell_of_row w4 _ 4 _ _ _ h4.bx⟩; have cD := cB _ w4 h4)
    | (go_at_call 21; refine cD.mono ?_; rintro e w5 ⟨rfl, h5⟩; have HT5 : w5.cell? ⟨w.heap.size, 3, none⟩ = some (.bool odd) ∧ w5.cell? ⟨w.heap.size, 4, none⟩ = some (.slice a len cap) := ⟨cell_of_row w5 _ 3 _ _ _ h5.bx, cell_of_row w5 _ 4 _ _ _ h5.bx⟩; have H5 : Hid (_) := h5; clear h5))
  all_goals
    go_wp2_with fail
    go_ret
    rw [HE.out]
    exact ⟨by simp, H5.out.two⟩
end Go.Proofs.YtndjepeolamedaaGreat
namespace Go.Proofs.YtndjepeolamedaaGreat
set_option maxRecDepth 100000
open Go.RowKit
def Osx (L : Pl) (s : Sd) (K N fl : Int) (odd : Bool) (len : Nat) (bs : Nat → Nat) (x : Nat) (s' : Sd) : Prop :=
  (1 ≤ K ∧ K ≤ 7 → ∃ f : Fm, (∀ i, i < f.1 → f.2 i < 256) ∧ Fo L.P s K N fl odd len bs x f ∧ s' = (drecv L.P L.mx L.n s f.1 f.2).s) ∧ (K = 8 → s' = dtickS L.P s N) ∧ (K = 9 → s' = dwriteS L.P s len bs odd) ∧ (K = 10 → s' = dackS s) ∧
  (K = 11 → s' = dresetS L.mx L.n s N) ∧ (K = 12 → s' = { s with ms := arS s.ms N }) ∧ (¬ (1 ≤ K ∧ K ≤ 12) → s' = s)
theorem Two.mo {w0 w : World} {L : Pl} {s : Sd} (h : Two w0 w L s) : Mo L.mx L.n s ∧ Pok L.P ∧ (∀ i, i < L.P.i → s.ap i < 256) ∧ Below w0.heap.size w0 w := by
  obtain ⟨U, V, T⟩ := h
  obtain ⟨B, y⟩ := id T.dv
  exact ⟨Mo.of T.dv, y.pok, y.apb, T.bel⟩
theorem step_op (w0 w : World) (L : Pl) (s : Sd) (K N fl : Int) (odd : Bool) (a : Option Addr) (len cap : Nat) (bs : Nat → Nat) (p : Int) (x : Nat) (h : Two w0 w L s) (hr : Row8 w a len cap bs) (hl : ∀ y, a = some y → 0 < len → y.block < w0.heap.size) (hx : x < 4294967296) (hlen : len ≤ 140737488351232) (hN : N ≤ 9223372036854775807) (hv : Iv L.P s) (hL : s.L.length < 800000) (ht : s.ms.t < 9223372036854774000) :
    Calls Tryz.prog 29 #[.pointer (some ⟨L.d, 0, none⟩), .pointer (some ⟨L.m, 0, none⟩), .pointer (some ⟨L.e, 0, none⟩), .agg #[.int .i64 K, .int .i64 N, .int .i64 fl, .bool odd, .slice a len cap, .int .i64 p, .int .u32 (x : Nat)]] w fun e w' => e = .returned (.bool true) ∧ Hid (∃ s', Two w0 w' L s' ∧ Iv L.P s' ∧ Gw s s' ∧ Osx L s K N fl odd len bs x s') := by
  obtain ⟨M, hP, _, _⟩ := h.mo
  by_cases h7 : 1 ≤ K ∧ K ≤ 7
  · refine (step_recv w0 w L s K N fl odd a len cap bs p x h hr hl h7 hx hlen hv hL ht).mono ?_
    rintro e w' ⟨rfl, h5⟩
    obtain ⟨f, y, fo, T⟩ := h5.out
    exact ⟨rfl, _, T, hv.recv hP M f.1 f.2, gw_recv M f.1 f.2, fun _ => ⟨f, y, fo, rfl⟩, fun e => by omega, fun e => by omega, fun e => by omega, fun e => by omega, fun e => by omega, fun e => by omega⟩
  · by_cases h12 : 1 ≤ K ∧ K ≤ 12
    · have : K = 8 ∨ K = 9 ∨ K = 10 ∨ K = 11 ∨ K = 12 := by omega
      rcases this with rfl | rfl | rfl | rfl | rfl
      · refine (step8_any w0 w L s N fl odd a len cap bs p x h hr hl hv.ss hN hL).mono ?_
        rintro e w' ⟨rfl, h5⟩
        exact ⟨rfl, _, h5.out, hv.tick N, gw_tick N, fun e => by omega, fun _ => rfl, fun e => by omega, fun e => by omega, fun e => by omega, fun e => by omega, fun e => by omega⟩
      · refine (step9_any w0 w L s N fl odd a len cap bs p x h hr hl hv.ss hlen).mono ?_
        rintro e w' ⟨rfl, h5⟩
        exact ⟨rfl, _, h5.out, hv.write len bs odd, gw_write len bs odd, fun e => by omega, fun e => by omega, fun _ => rfl, fun e => by omega, fun e => by omega, fun e => by omega, fun e => by omega⟩
      · refine (step10_any w0 w L s N fl odd a len cap bs p x h hr hl hv.ss).mono ?_
        rintro e w' ⟨rfl, h5⟩
        exact ⟨rfl, _, h5.out, hv.ack, gw_ack, fun e => by omega, fun e => by omega, fun e => by omega, fun _ => rfl, fun e => by omega, fun e => by omega, fun e => by omega⟩
      · refine (step11_any w0 w L s N fl odd a len cap bs p x h hr hl hv.ss hN ht).mono ?_
        rintro e w' ⟨rfl, h5⟩
        exact ⟨rfl, _, h5.out, hv.reset N, gw_reset M N, fun e => by omega, fun e => by omega, fun e => by omega, fun e => by omega, fun _ => rfl, fun e => by omega, fun e => by omega⟩
      · refine (step12_any w0 w L s N fl odd a len cap bs p x h hr hl hv.ss hN).mono ?_
        rintro e w' ⟨rfl, h5⟩
        exact ⟨rfl, _, h5.out, hv.arm N, gw_arm N, fun e => by omega, fun e => by omega, fun e => by omega, fun e => by omega, fun e => by omega, fun _ => rfl, fun e => by omega⟩
    · refine (stepN_any w0 w L s K N fl odd a len cap bs p x h hr hl hv.ss h12).mono ?_
      rintro e w' ⟨rfl, h5⟩
      exact ⟨rfl, _, h5.out, hv, ⟨by omega, by omega⟩, fun e => absurd e h7, fun e => by omega, fun e => by omega, fun e => by omega, fun e => by omega, fun e => by omega, fun _ => rfl⟩
theorem two_made {w0 w w1 w2 : World} {L : Pl} {s : Sd} {U V : List Nat} (bel : Below w0.heap.size w0 w) (o1 : Off [L.m, L.g] w w1) (D : DV w1 L.d L.m L.g L.n L.mx L.P U s) (hU : ∀ k, k ∈ U → k = L.m ∨ k = L.g ∨ w.heap.size ≤ k)
    (o2 : Off [L.r, L.q] w1 w2) (R : RW w2 L.e L.r L.q L.n L.mx L.P V s) (hV : ∀ k, k ∈ V → k = L.r ∨ k = L.q ∨ w1.heap.size ≤ k) (h0 : w0.heap.size ≤ L.m ∧ w0.heap.size ≤ L.g ∧ w0.heap.size ≤ L.r ∧ w0.heap.size ≤ L.q)
    (hne : L.m ≠ L.r ∧ L.m ≠ L.q ∧ L.g ≠ L.r ∧ L.g ≠ L.q) (hlt : L.r < w.heap.size ∧ L.q < w.heap.size) (hK : L.K = []) : Two w0 w2 L s := by
  have s1 := o1.size
  have sb := bel.size
  have b1 : Below w0.heap.size w0 w1 := o1.below bel (by simp; omega) bel.size
  have hUr : ∀ k, k ∈ U → k ∉ [L.r, L.q] := fun k hk hm => by
    have := hU k hk
    simp at hm
    omega
  refine ⟨U, V, o2.below b1 (by simp; omega) b1.size, D.off o2 hUr, R, fun k hk => ⟨?_, fun hm => ?_⟩, fun k hk => ?_, fun k hk => by simp at hk, fun x hx => by rw [hK] at hx; simp at hx⟩
  · have := hU k hk; omega
  · have h1 := hU k hk
    have h2 := hV k hm
    have h3 := D.ult k hk
    omega
  · have := hV k hk; omega
end Go.Proofs.YtndjepeolamedaaGreat
namespace Go.Proofs.YtndjepeolamedaaGreat
set_option maxRecDepth 100000
open Go.RowKit
structure Tld (F : Fm) (k c s n f len : Nat) (bs : Nat → Nat) : Prop where
  de : DE F.2 F.1 = 0
  ln : F.1 - 19 = len
  k : F.2 0 = k
  c : w4v F.2 1 = c
  s : w4v F.2 5 = s
  n : w4v F.2 9 = n
  f : F.2 13 = f
  bs : ∀ j, j < len → F.2 (15 + j) = bs j
theorem tld_enc {k c s n f len : Nat} {bs : Nat → Nat} (hc : c < 4294967296) (hs : s < 4294967296) (hn : n < 4294967296) : Tld (encF k c s n f len bs) k c s n f len bs ∨ encF k c s n f len bs = fm0 := by
  by_cases h : LW k c s n f len len = 0
  · left
    have hl : len ≤ 8 := by have := (LW_zero h).2.2.2.1; omega
    obtain ⟨e1, e2, e3, e4, e5, e6, e7⟩ := DE_back k c s n f len bs hc hs hn hl h
    have hF : encF k c s n f len bs = (15 + len + 4, PM.sl (fr k c s n f len bs) (15 + len)) := if_pos h
    rw [hF]
    exact ⟨e1, by show 15 + len + 4 - 19 = len; omega, e2, e3, e4, e5, e6, e7⟩
  · right; exact if_neg h
theorem dlatch_ap (s : Sd) (x : Int) : (dlatch s x).ap = s.ap ∧ (dlatch s x).hd = s.hd := by unfold dlatch dnote; split <;> exact ⟨rfl, rfl⟩
theorem dodd_ap (s : Sd) : (dodd s).ap = s.ap ∧ (dodd s).hd = s.hd := by
  unfold dodd
  split
  · split
    · exact ⟨rfl, rfl⟩
    · split
      · exact dlatch_ap _ _
      · exact ⟨rfl, rfl⟩
  · exact ⟨rfl, rfl⟩
def Apk (s : Sd) (R : Rs) : Prop := (R.e = 70 → R.s.ap = (fun _ => 0) ∧ R.s.hd = false) ∧ (R.e ≠ 70 → R.s.ap = s.ap ∧ R.s.hd = s.hd ∧ R.s.st ≠ 6)
theorem dodd_st6 {s : Sd} (h : s.st ≠ 6) : (dodd s).st ≠ 6 := dodd_up h
theorem apk_begin (P : Pm) (mx n : Nat) {s : Sd} : Apk s (dbegin P mx n s) := by
  have he := nx_e mx n s.ms.bs false s.ms
  unfold dbegin
  split
  · refine ⟨fun h => absurd h (by show (80 : Int) ≠ 70; omega), fun _ => ⟨(dlatch_ap { s with ms := (nx mx n s.ms.bs false s.ms).s } 80).1, (dlatch_ap { s with ms := (nx mx n s.ms.bs false s.ms).s } 80).2, by show (5 : Nat) ≠ 6; omega⟩⟩
  · split
    · rename_i h1 h2
      refine ⟨fun _ => ⟨rfl, rfl⟩, fun h => ?_⟩
      exfalso
      have h : (nx mx n s.ms.bs false s.ms).e ≠ 70 := h
      omega
    · exact ⟨fun h => absurd h (by show (0 : Int) ≠ 70; omega), fun _ => ⟨rfl, rfl, by show (2 : Nat) ≠ 6; omega⟩⟩
theorem apk_odd {s : Sd} (h6 : s.st ≠ 6) (e : Int) (he : e ≠ 70) (f : Fm) : Apk s ⟨dodd s, f, e⟩ := ⟨fun h => absurd h he, fun _ => ⟨(dodd_ap s).1, (dodd_ap s).2, dodd_st6 h6⟩⟩
theorem apk_wish (P : Pm) (mx n : Nat) {s : Sd} (h6 : s.st ≠ 6) : Apk s (dwish P mx n s) := by
  unfold dwish
  split
  · exact apk_odd h6 130 (by omega) _
  · split
    · exact apk_odd h6 130 (by omega) _
    · have h := apk_begin P mx n (s := dodd s)
      exact ⟨h.1, fun e => ⟨(h.2 e).1.trans (dodd_ap s).1, (h.2 e).2.1.trans (dodd_ap s).2, (h.2 e).2.2⟩⟩
theorem apk_take (P : Pm) (mx n : Nat) {s : Sd} (h6 : s.st ≠ 6) (k ss num fl len : Nat) (bs : Nat → Nat) : Apk s (dtake P mx n s k ss num fl len bs) := by
  have r : ∀ e : Int, e ≠ 70 → Apk s (drefuse P s e) := fun e he => apk_odd h6 e he _
  unfold dtake
  split
  · split
    · exact apk_wish P mx n h6
    · exact r 91 (by omega)
  · split
    · split
      · refine ⟨fun h => absurd h (by show (0 : Int) ≠ 70; omega), fun _ => ?_⟩
        show (dechoS s).ap = s.ap ∧ (dechoS s).hd = s.hd ∧ (dechoS s).st ≠ 6
        unfold dechoS
        split
        · exact ⟨rfl, rfl, by show (3 : Nat) ≠ 6; omega⟩
        · exact ⟨rfl, rfl, h6⟩
      · exact r 91 (by omega)
    · split
      · refine ⟨fun h => absurd h (by show (0 : Int) ≠ 70; omega), fun _ => ?_⟩
        show (dstartS s).ap = s.ap ∧ (dstartS s).hd = s.hd ∧ (dstartS s).st ≠ 6
        unfold dstartS
        split
        · exact ⟨rfl, rfl, by show (4 : Nat) ≠ 6; omega⟩
        · exact ⟨rfl, rfl, h6⟩
      · split
        · exact ⟨fun h => absurd h (by show (0 : Int) ≠ 70; omega), fun _ => ⟨rfl, rfl, h6⟩⟩
        · split
          · refine ⟨fun h => absurd h (by show (0 : Int) ≠ 70; omega), fun _ => ?_⟩
            obtain ⟨a, b⟩ := dlatch_ap (don { s with nm := P.n }) 80
            exact ⟨a, b, by show (5 : Nat) ≠ 6; omega⟩
          · exact r 130 (by omega)
theorem apk_recv (P : Pm) (mx n : Nat) (s : Sd) (h0 : s.st = 6 → s.ap = (fun _ => 0) ∧ s.hd = false) (len : Nat) (bs : Nat → Nat) : Apk s (drecv P mx n s len bs) := by
  unfold drecv
  by_cases h6 : s.st = 6
  · rw [if_pos h6]
    exact ⟨fun _ => h0 h6, fun h => absurd rfl h⟩
  · rw [if_neg h6]
    have hh : Apk s (dhear P mx n s len bs) := by
      unfold dhear
      split
      · rename_i hd
        refine ⟨fun h => ?_, fun _ => ⟨rfl, rfl, h6⟩⟩
        have h : DE bs len = 70 := h
        have := (DE_rng bs len).2
        omega
      · split
        · exact ⟨fun h => absurd h (by show (43 : Int) ≠ 70; omega), fun _ => ⟨rfl, rfl, h6⟩⟩
        · split
          · exact ⟨fun h => absurd h (by show (44 : Int) ≠ 70; omega), fun _ => ⟨rfl, rfl, h6⟩⟩
          · exact apk_take P mx n h6 _ _ _ _ _ _
    generalize dhear P mx n s len bs = R at *
    split
    · exact hh
    · exact hh
def Fgd (P : Pm) (R : Rs) : Prop := DE R.f.2 R.f.1 ≠ 0 ∨ (DE R.f.2 R.f.1 = 0 ∧ R.f.2 0 ≠ 20) ∨ Tld R.f 20 P.c R.s.ss R.s.sn (dflags R.s) P.i R.s.ap
theorem fgd_other {P : Pm} {s : Sd} {e : Int} {k c ss num fl len : Nat} {bs : Nat → Nat} (hc : c < 4294967296) (hs : ss < 4294967296) (hn : num < 4294967296) (hk : k ≠ 20) : Fgd P ⟨s, encF k c ss num fl len bs, e⟩ := by
  rcases tld_enc (k := k) (f := fl) (len := len) (bs := bs) hc hs hn with t | t
  · exact .inr (.inl ⟨t.de, by show (encF k c ss num fl len bs).2 0 ≠ 20; rw [t.k]; exact hk⟩)
  · left
    show DE (encF k c ss num fl len bs).2 (encF k c ss num fl len bs).1 ≠ 0
    rw [t]
    show DE (fun _ => 0) 0 ≠ 0
    decide
theorem fgd_begin {P : Pm} {mx n : Nat} {s : Sd} (hP : Pok P) (hz : (nx mx n s.ms.bs false s.ms).v < 4294967296) (h : (dbegin P mx n s).e = 0) : Fgd P (dbegin P mx n s) := by
  unfold dbegin at *
  split at h
  · exact absurd h (by show (80 : Int) ≠ 0; omega)
  · rename_i h1
    rw [if_neg h1]
    split at h
    · rename_i h2
      exact absurd h h2
    · rename_i h2
      rw [if_neg h2]
      exact fgd_other hP.c hz (by omega) (by omega)
theorem fgd_take {P : Pm} {mx n : Nat} {s : Sd} (hP : Pok P) (hv : Iv P s) (M : Mo mx n s) (h6 : s.st ≠ 6) (k ss num fl len : Nat) (bs : Nat → Nat) (h : (dtake P mx n s k ss num fl len bs).e = 0) : Fgd P (dtake P mx n s k ss num fl len bs) := by
  have hss := hv.ss
  unfold dtake at *
  by_cases c1 : k = 1
  · rw [if_pos c1] at h ⊢
    by_cases c2 : dsigned P len bs = true
    · rw [if_pos c2] at h ⊢
      unfold dwish at *
      by_cases d2 : (dodd s).st = 2
      · rw [if_pos d2] at h; exact absurd h (by show (130 : Int) ≠ 0; omega)
      · rw [if_neg d2] at h ⊢
        by_cases d3 : (dodd s).st = 3 ∨ (dodd s).st = 4
        · rw [if_pos d3] at h; exact absurd h (by show (130 : Int) ≠ 0; omega)
        · rw [if_neg d3] at h ⊢
          refine fgd_begin hP ?_ h
          have hms : (dodd s).ms = s.ms := dodd_ms s
          rw [hms]
          have hq := nx_vz (mx := mx) (n := n) (s := s.ms) M.n10 (M.off h6) M.l0 M.mxl
          rcases nx_e mx n s.ms.bs false s.ms with e | e | e
          · obtain ⟨v1, v2, v3⟩ := hq.1 e
            have := M.mxl
            omega
          · have : (nx mx n s.ms.bs false s.ms).v = 0 := by
              revert e; unfold nx
              split
              · exact fun _ => rfl
              · split
                · exact fun _ => rfl
                · split
                  · intro e; exact absurd e (by show (0 : Int) ≠ 70; omega)
                  · exact fun _ => rfl
            omega
          · have : (nx mx n s.ms.bs false s.ms).v = 0 := by
              revert e; unfold nx
              split
              · exact fun _ => rfl
              · split
                · exact fun _ => rfl
                · split
                  · intro e; exact absurd e (by show (0 : Int) ≠ 80; omega)
                  · exact fun _ => rfl
            omega
    · rw [if_neg c2] at h; exact absurd h (by show (91 : Int) ≠ 0; omega)
  · rw [if_neg c1] at h ⊢
    by_cases c2 : k = 2 ∧ ss = s.ss ∧ (s.st = 2 ∨ s.st = 3)
    · rw [if_pos c2] at h ⊢
      by_cases c3 : dsigned P len bs = true
      · rw [if_pos c3]
        refine fgd_other hP.c ?_ (by omega) (by omega)
        unfold dechoS
        split <;> exact hss
      · rw [if_neg c3] at h; exact absurd h (by show (91 : Int) ≠ 0; omega)
    · rw [if_neg c2] at h ⊢
      by_cases c3 : k = 3 ∧ ss = s.ss ∧ (s.st = 3 ∨ s.st = 4 ∧ s.nm = 0)
      · rw [if_pos c3]
        refine fgd_other hP.c ?_ (by omega) (by omega)
        unfold dstartS
        split <;> exact hss
      · rw [if_neg c3] at h ⊢
        by_cases c4 : k = 4 ∧ (ss = s.ss ∧ s.st = 4 ∧ s.nm < num) ∧ num < P.n ∧ len = P.o
        · rw [if_pos c4]
          have hsn := hv.sent hP c4.2.1.2.1
          rcases tld_enc (k := 20) (c := P.c) (s := (ddataS s num fl bs).ss) (n := s.sn + 1) (f := dflags (ddataS s num fl bs)) (len := P.i) (bs := s.ap) hP.c hss hsn with t | t
          · exact .inr (.inr t)
          · left
            show DE (encF 20 P.c (ddataS s num fl bs).ss (s.sn + 1) (dflags (ddataS s num fl bs)) P.i s.ap).2 (encF 20 P.c (ddataS s num fl bs).ss (s.sn + 1) (dflags (ddataS s num fl bs)) P.i s.ap).1 ≠ 0
            rw [t]
            show DE (fun _ => 0) 0 ≠ 0
            decide
        · rw [if_neg c4] at h ⊢
          by_cases c5 : k = 5 ∧ (ss = s.ss ∧ s.st = 4 ∧ s.nm < num) ∧ num = P.n
          · rw [if_pos c5]
            refine fgd_other hP.c ?_ hP.n (by omega)
            show (dlatch (don { s with nm := P.n }) 80).ss < _
            rw [(dlatch_flds _ _).2.1]
            exact hss
          · rw [if_neg c5] at h; exact absurd h (by show (130 : Int) ≠ 0; omega)
theorem fgd_recv {P : Pm} {mx n : Nat} {s : Sd} (hP : Pok P) (hv : Iv P s) (M : Mo mx n s) (len : Nat) (bs : Nat → Nat) (h : (drecv P mx n s len bs).e = 0) : Fgd P (drecv P mx n s len bs) := by
  unfold drecv at *
  by_cases h6 : s.st = 6
  · rw [if_pos h6] at h; exact absurd h (by show (70 : Int) ≠ 0; omega)
  · rw [if_neg h6] at h ⊢
    by_cases he : (dhear P mx n s len bs).e ≠ 0 ∧ (dhear P mx n s len bs).e ≠ 70
    · rw [if_pos he] at h; exact absurd h he.1
    · rw [if_neg he] at h ⊢
      unfold dhear at *
      split at h
      · rename_i hd; exact absurd h hd
      · rename_i hd
        rw [if_neg hd]
        split at h
        · exact absurd h (by show (43 : Int) ≠ 0; omega)
        · rename_i hk
          rw [if_neg hk]
          split at h
          · exact absurd h (by show (44 : Int) ≠ 0; omega)
          · rename_i hc
            rw [if_neg hc]
            exact fgd_take hP hv M h6 _ _ _ _ _ _ h
def Hrd (w0 w : World) (L : Pl) (s : Sd) (f : Fm) (av : Option Addr) (cv : Nat) (ax : Option Addr) (cx : Nat) : Prop :=
  Calls Tryz.prog 25 #[.pointer (some ⟨L.e, 0, none⟩), .slice av f.1 cv] w fun e w' => ∃ v, e = .returned (.tuple #[v, .int .i64 (drecv L.P L.mx L.n s f.1 f.2).e]) ∧ Hid (Two w0 w' L (drecv L.P L.mx L.n s f.1 f.2).s ∧ Row8 w' ax (drecv L.P L.mx L.n s f.1 f.2).f.1 cx (drecv L.P L.mx L.n s f.1 f.2).f.2)
theorem recv_two (w0 w wb : World) (L : Pl) (s : Sd) (f : Fm) (av : Option Addr) (cv : Nat) (a3 : Option Addr) (c3 : Nat) (U V : List Nat) (T0 : Bt w0 wb L s s [] U V) (b : Below wb.heap.size wb w) (hfar : ∀ y, av = some y → wb.heap.size ≤ y.block) (rv : Row8 w av f.1 cv f.2) (r3 : Row8 w a3 f.1 c3 f.2) (hv : Iv L.P s) (hL : s.L.length < 800000) (ht : s.ms.t < 9223372036854774000) :
    Calls Tryz.prog 24 #[.pointer (some ⟨L.d, 0, none⟩), .slice a3 f.1 c3] w fun e w' => ∃ ax cx, e = .returned (.tuple #[.slice ax (drecv L.P L.mx L.n s f.1 f.2).f.1 cx, .int .i64 (drecv L.P L.mx L.n s f.1 f.2).e]) ∧ Hid (Hrd w0 w' L s f av cv ax cx) := by
  have T := T0.below b
  obtain ⟨B, y⟩ := id T.dv
  have hP := y.pok
  have hby := drecv_byte L.P L.mx L.n s y.apb f.1 f.2
  refine (receive4_any L.d L.m L.g L.n L.mx L.P U s a3 f.1 c3 f.2 w T.dv r3 (hv.sent hP) hv.od hL ht).mono ?_
  rintro e w4 ⟨vx, rfl, h4⟩
  obtain ⟨U4, g4, x4, fx, kx⟩ := h4.out
  have T4 := T.dev g4 x4
  obtain ⟨ax, cx, rfl, _⟩ := fx.row hby
  refine ⟨ax, cx, rfl, ?_⟩
  refine (rreceive_any L.e L.r L.q L.n L.mx L.P V s av f.1 cv f.2 w4 T4.rw (rv.off g4.off (fun y hy hm => ?_)) (hv.sent hP) hv.od hL ht hv.ss).mono ?_
  · have := hfar y hy
    have := T0.dv.ult _ hm
    omega
  rintro e w5 ⟨vy, rfl, h5⟩
  obtain ⟨V5, g5, x5, fy, ky⟩ := h5.out
  have T5 := T4.ref g5 x5
  have fx5 : Fr w5 w.heap.size (.slice ax (drecv L.P L.mx L.n s f.1 f.2).f.1 cx) (drecv L.P L.mx L.n s f.1 f.2).f := own_offk fx g5.off (fun k hk hm => by
    have := fx.ge k hk
    have := T.rw.ult k hm
    omega)
  obtain ⟨ax', cx', ex, rx⟩ := fx5.row hby
  simp only [Value.slice.injEq, true_and] at ex
  obtain ⟨rfl, rfl⟩ := ex
  exact ⟨vy, rfl, ⟨U4, V5, T5⟩, rx⟩
theorem refDec_any (a : Option Addr) (len cap : Nat) (bs : Nat → Nat) (w : World) (hr : Row8 w a len cap bs) :
    Calls Tryz.prog 30 #[.slice a len cap] w fun e w' => ∃ (v0 v1 v2 v3 v4 : Int) (a' : Option Addr) (l' c' : Nat), e = .returned (.tuple #[.agg #[.int .i64 v0, .int .u32 v1, .int .u32 v2, .int .u32 v3, .int .i64 v4, .slice a' l' c'], .int .i64 (DE bs len)]) ∧ Below w.heap.size w w' := by
  by_cases h : DE bs len = 0
  · refine (refDec_ok a len cap bs w hr h).mono ?_
    rintro e w' ⟨a', c', rfl, g⟩
    exact ⟨_, _, _, _, _, a', _, c', by rw [h], g.out.2⟩
  · refine (refDec_no a len cap bs w hr h).mono ?_
    rintro e w' ⟨rfl, g⟩
    exact ⟨_, _, _, _, _, _, _, _, rfl, g⟩
theorem tick_ap (P : Pm) (s : Sd) (k : Int) : (dtickS P s k).ap = s.ap ∧ (dtickS P s k).hd = s.hd ∧ (dtickS P s k).st = s.st := by
  unfold dtickS
  split
  · exact ⟨rfl, rfl, rfl⟩
  · split
    · exact ⟨rfl, rfl, rfl⟩
    · split
      · obtain ⟨a, b⟩ := dlatch_ap { s with dc := tk P.t s.dc k.toNat } 100
        exact ⟨a, b, dlatch_st _ _⟩
      · exact ⟨rfl, rfl, rfl⟩
theorem ack_ap (s : Sd) : (dackS s).ap = s.ap ∧ (dackS s).hd = s.hd ∧ (dackS s).st = s.st := by
  unfold dackS
  split <;> exact ⟨rfl, rfl, rfl⟩
theorem call_ap13 {L : Pl} {s s' : Sd} {K N fl : Int} {odd : Bool} {len : Nat} {bs : Nat → Nat} {x : Nat} (o : Osx L s K N fl odd len bs x s') (h7 : ¬ (1 ≤ K ∧ K ≤ 7)) (h9 : K ≠ 9) (h11 : K ≠ 11) : s'.ap = s.ap ∧ s'.hd = s.hd ∧ s'.st = s.st := by
  obtain ⟨_, o8, _, o10, _, o12, oN⟩ := o
  by_cases h8 : K = 8
  · rw [o8 h8]; exact tick_ap _ _ _
  · by_cases h10 : K = 10
    · rw [o10 h10]; exact ack_ap _
    · by_cases h12 : K = 12
      · rw [o12 h12]; exact ⟨rfl, rfl, rfl⟩
      · rw [oN (by omega)]; exact ⟨rfl, rfl, rfl⟩
theorem frame_all13L (d m g n mx : Nat) (P : Pm) (U : List Nat) (s : Sd) (K N fl : Int) (odd : Bool) (a : Option Addr) (len cap : Nat) (bs : Nat → Nat) (p : Int) (x : Nat) (w : World) (h : RW w d m g n mx P U s) (hr : Row8 w a len cap bs) (ha : ∀ y, a = some y → 0 < len → y.block < w.heap.size) (hss : s.ss < 4294967296) (hx : x < 4294967296) (hlen : len ≤ 140737488351232) :
    Calls Tryz.prog 23 #[.pointer (some ⟨d, 0, none⟩), .agg #[.int .i64 K, .int .i64 N, .int .i64 fl, .bool odd, .slice a len cap, .int .i64 p, .int .u32 (x : Nat)]] w fun e w' => ∃ (av : Option Addr) (f : Fm) (cv : Nat) (ib : Bool), e = .returned (.tuple #[.slice av f.1 cv, .bool ib]) ∧ Hid (ib = decide (1 ≤ K ∧ K ≤ 7) ∧ Row8 w' av f.1 cv f.2 ∧ f.1 ≤ 140737488351232 ∧ Below w.heap.size w w' ∧ (∀ y, av = some y → w.heap.size ≤ y.block ∧ y.block < w'.heap.size) ∧ (1 ≤ K ∧ K ≤ 7 → Fo P s K N fl odd len bs x f) ∧ (¬ (1 ≤ K ∧ K ≤ 7) → DE f.2 f.1 ≠ 0)) := by
  by_cases hK : 1 ≤ K ∧ K ≤ 7
  · refine (frame_op d m g n mx P U s K N fl odd a len cap bs p x w h hr ha hss hx hlen hK).mono ?_
    rintro e w' ⟨v, rfl, h2⟩
    obtain ⟨b2, f, F2, y2, l2, fo⟩ := h2.out
    obtain ⟨av, cv, rfl, rv⟩ := F2.row y2
    exact ⟨av, f, cv, true, rfl, (decide_eq_true hK).symm, rv, l2, b2, fun y hy => own_far F2 y hy, fun _ => fo, fun k => absurd hK k⟩
  · refine (frameN_any d m g n mx P U s K N fl odd a len cap bs p x w h hr ha hss hK).mono ?_
    rintro e w' ⟨rfl, b2⟩
    exact ⟨none, fm0, 0, false, rfl, (decide_eq_false hK).symm, row_nilX _ _, Nat.zero_le _, b2, (fun y hy => by cases hy), fun k => absurd k hK, fun _ => by show DE (fun _ => 0) 0 ≠ 0; decide⟩
end Go.Proofs.YtndjepeolamedaaGreat
namespace Go.Proofs.YtndjepeolamedaaGreat
set_option maxRecDepth 100000
open Go.RowKit
def Ak (v v' : Vs) : Prop := von v' = true → von v = true ∧ v'.bs = v.bs
theorem Ak.refl (v : Vs) : Ak v v := fun h => ⟨h, rfl⟩
theorem Ak.trans {a b c : Vs} (h : Ak a b) (k : Ak b c) : Ak a c := fun e => ⟨(h (k e).1).1, (k e).2.trans (h (k e).1).2⟩
theorem Ak.off {a b : Vs} (h : von b = false) : Ak a b := fun e => by rw [h] at e; cases e
theorem ak_trip (v : Vs) (x : Int) : Ak v (vtrip v x) := by
  unfold vtrip
  split
  · exact Ak.refl v
  · exact Ak.off (by unfold von; simp)
theorem ak_run (v : Vs) (o : Bool) : Ak v (vrun v o) := by
  unfold vrun
  split
  · exact Ak.refl v
  · exact Ak.off (by unfold von; simp)
theorem ak_fresh (v : Vs) : Ak v (vfresh v) := fun e => ⟨e, rfl⟩
theorem ak_ack (v : Vs) : Ak v (vack v) := by
  unfold vack
  split
  · exact fun e => ⟨e, rfl⟩
  · exact Ak.refl v
theorem von_run {v : Vs} (h : von v = true) : v.run = true ∧ v.sm = true := by
  unfold von at h
  revert h
  cases v.run <;> cases v.held <;> cases v.sm <;> decide
theorem Iv.on {P : Pm} {s : Sd} (h : Iv P s) (ho : von s.v = true) : s.st = 4 ∧ s.v.lat = 0 := by
  obtain ⟨h1, h2⟩ := von_run ho
  rw [h.vr] at h1
  exact ⟨of_decide_eq_true h1, h.vok.sm h2⟩
structure Nt (s s' : Sd) : Prop where
  nm : s'.ss = s.ss → s'.nm = s.nm
  zz : vz s.ms.bs ≤ vz s'.ms.bs
  up : s'.ss = s.ss ∨ s'.ss = 0 ∨ vz s.ms.bs < s'.ss
  ak : Ak s.v s'.v
structure Ac (P : Pm) (s s' : Sd) (len : Nat) (bs : Nat → Nat) : Prop where
  de : DE bs len = 0
  kd : bs 0 = 4 ∨ bs 0 = 5
  st : s.st = 4
  ss : s'.ss = s.ss
  nm : s.nm < s'.nm
  ms : s'.ms = s.ms
  w5 : w4v bs 5 = s'.ss
  w9 : w4v bs 9 = s'.nm
  out : von s'.v = true → len - 19 = P.o ∧ s'.v.bs = fun i => bs (15 + i)
theorem Nt.refl (s : Sd) : Nt s s := ⟨fun _ => rfl, Nat.le_refl _, .inl rfl, Ak.refl _⟩
theorem Nt.same {s s' : Sd} (h1 : s'.ss = s.ss) (h2 : s'.nm = s.nm) (h3 : s'.ms.bs = s.ms.bs) (h4 : Ak s.v s'.v) : Nt s s' := ⟨fun _ => h2, by rw [h3]; exact Nat.le_refl _, .inl h1, h4⟩
theorem Nt.zero {P : Pm} {s s' : Sd} (h : Iv P s) (h1 : s'.ss = 0) (h2 : s'.nm = 0) (h3 : vz s.ms.bs ≤ vz s'.ms.bs) (h4 : Ak s.v s'.v) : Nt s s' := ⟨fun e => by rw [h2, h.s0 (by omega)], h3, .inr (.inl h1), h4⟩
theorem Nt.latch (s : Sd) (x : Int) : Nt s (dlatch s x) := by
  obtain ⟨_, l2, l3, _, _, l6, _, _⟩ := dlatch_flds s x
  exact Nt.same l2 l3 (by rw [l6]) (by rw [dlatch_v]; exact ak_trip _ _)
theorem vrun_off (v : Vs) : von (vrun v false) = false := by unfold von; rw [vrun_run]; rfl
theorem von_new : von vnew = false := rfl
theorem Nt.odd {P : Pm} {s : Sd} (h : Iv P s) : Nt s (dodd s) := by
  have hm : (dodd s).ms.bs = s.ms.bs := by rw [dodd_ms]
  revert hm
  unfold dodd
  split
  · split
    · exact fun _ => Nt.same rfl rfl rfl (Ak.refl _)
    · exact fun hm => Nt.zero h rfl rfl (by rw [hm]; exact Nat.le_refl _) (Ak.off (vrun_off _))
  · exact fun _ => Nt.refl _
theorem Nt.begin_ {P : Pm} {mx n : Nat} {s : Sd} (h : Iv P s) (M : Mo mx n s) (hu : s.st ≠ 6) : Nt s (dbegin P mx n s).s := by
  have hv := nx_vz (mx := mx) (n := n) (s := s.ms) M.n10 (M.off hu) M.l0 M.mxl
  unfold dbegin
  generalize nx mx n s.ms.bs false s.ms = X at *
  split
  · rename_i h80
    refine Nt.zero h rfl rfl ?_ (Ak.off (vrun_off _))
    show _ ≤ vz (dlatch { s with ms := X.s } 80).ms.bs
    rw [dlatch_ms]
    show _ ≤ vz X.s.bs
    rw [hv.2 (by omega)]; exact Nat.le_refl _
  · split
    · rename_i h0
      refine Nt.zero h rfl rfl ?_ (Ak.off von_new)
      show _ ≤ vz X.s.bs
      rw [hv.2 h0]; exact Nat.le_refl _
    · rename_i e0
      have e0 : X.e = 0 := by simpa using e0
      obtain ⟨v1, v2, v3⟩ := hv.1 e0
      have hz := h.z
      refine ⟨fun e => ?_, ?_, .inr (.inr ?_), Ak.off (vrun_off _)⟩
      · have e : X.v = s.ss := e
        omega
      · show _ ≤ vz X.s.bs
        omega
      · show _ < X.v
        omega
theorem Nt.trans_odd {P : Pm} {s s' : Sd} (h : Iv P s) (k : Nt (dodd s) s') : Nt s s' := by
  have o := Nt.odd h
  have hm : vz (dodd s).ms.bs = vz s.ms.bs := by rw [dodd_ms]
  have hs : (dodd s).ss = s.ss ∧ (dodd s).nm = s.nm ∨ (dodd s).ss = 0 ∧ (dodd s).nm = 0 := by
    unfold dodd
    split
    · split
      · exact .inl ⟨rfl, rfl⟩
      · exact .inr ⟨rfl, rfl⟩
    · exact .inl ⟨rfl, rfl⟩
  have kv := k.zz
  have ku := k.up
  have hz := h.z
  have h0 := h.s0
  refine ⟨fun e => ?_, by omega, ?_, o.ak.trans k.ak⟩
  · rcases hs with ⟨a, b⟩ | ⟨a, b⟩
    · rw [← b]; exact k.nm (by omega)
    · by_cases z : s.ss = 0
      · rw [k.nm (by omega), b, h0 z]
      · exfalso; omega
  · rcases hs with ⟨a, b⟩ | ⟨a, b⟩ <;> omega
theorem Nt.wish {P : Pm} {mx n : Nat} {s : Sd} (h : Iv P s) (M : Mo mx n s) (hu : s.st ≠ 6) : Nt s (dwish P mx n s).s := by
  unfold dwish
  split
  · exact Nt.odd h
  · split
    · exact Nt.odd h
    · exact Nt.trans_odd h (Nt.begin_ h.odd M.odd (dodd_up hu))
theorem Nt.echo (s : Sd) : Nt s (dechoS s) := by
  unfold dechoS
  split
  · exact Nt.same rfl rfl rfl (ak_fresh _)
  · exact Nt.refl _
theorem Nt.start (s : Sd) : Nt s (dstartS s) := by
  unfold dstartS
  split
  · exact Nt.same rfl rfl rfl ((ak_run s.v true).trans (ak_fresh _))
  · exact Nt.refl _
theorem take_on {P : Pm} {s : Sd} (h : Iv P s) (h4 : s.st = 4) (o : Bool) (bs : Nat → Nat) (ho : von (vtake (vhold (vfresh s.v) o) bs) = true) : (vtake (vhold (vfresh s.v) o) bs).bs = bs := by
  have hr : s.v.run = true := by rw [h.vr, h4]; rfl
  revert ho
  unfold vtake
  split
  · exact fun _ => rfl
  · rename_i hh
    intro ho
    exfalso
    have hl := h.vok.sm (von_run ho).2
    exact hh ⟨hr, hl⟩
theorem rise_take {P : Pm} {mx n : Nat} {s : Sd} (h : Iv P s) (M : Mo mx n s) (hu : s.st ≠ 6) (k ss num fl len : Nat) (bs : Nat → Nat) :
    Nt s (dtake P mx n s k ss num fl len bs).s ∨ ((k = 4 ∨ k = 5) ∧ s.st = 4 ∧ (dtake P mx n s k ss num fl len bs).s.ss = s.ss ∧ s.nm < (dtake P mx n s k ss num fl len bs).s.nm ∧ (dtake P mx n s k ss num fl len bs).s.ms = s.ms ∧ ss = (dtake P mx n s k ss num fl len bs).s.ss ∧ num = (dtake P mx n s k ss num fl len bs).s.nm ∧ (von (dtake P mx n s k ss num fl len bs).s.v = true → len = P.o ∧ (dtake P mx n s k ss num fl len bs).s.v.bs = bs)) := by
  unfold dtake
  split
  · split
    · exact .inl (Nt.wish h M hu)
    · exact .inl (Nt.odd h)
  · split
    · split
      · exact .inl (Nt.echo s)
      · exact .inl (Nt.odd h)
    · split
      · exact .inl (Nt.start s)
      · split
        · rename_i hh
          obtain ⟨e0, ⟨e1, e2, e3⟩, e4, e5⟩ := hh
          exact .inr ⟨.inl e0, e2, rfl, e3, rfl, e1, rfl, fun ho => ⟨e5, take_on h e2 _ bs ho⟩⟩
        · split
          · rename_i hh
            obtain ⟨e0, ⟨e1, e2, e3⟩, e4⟩ := hh
            obtain ⟨l1, l2, l3, l4, l5, l6, l7, l8⟩ := dlatch_flds (don { s with nm := P.n }) 80
            refine .inr ⟨.inr e0, e2, ?_, ?_, ?_, ?_, ?_, ?_⟩
            · exact l2
            · show s.nm < (dlatch (don { s with nm := P.n }) 80).nm
              rw [l3]; show s.nm < P.n; omega
            · exact l6
            · exact e1.trans l2.symm
            · exact e4.trans l3.symm
            · intro ho
              have ho : von (vrun (dlatch (don { s with nm := P.n }) 80).v false) = true := ho
              rw [vrun_off] at ho; cases ho
          · exact .inl (Nt.odd h)
theorem rise_recv {P : Pm} {mx n : Nat} {s : Sd} (h : Iv P s) (M : Mo mx n s) (len : Nat) (bs : Nat → Nat) :
    Nt s (drecv P mx n s len bs).s ∨ Ac P s (drecv P mx n s len bs).s len bs := by
  have hh : s.st ≠ 6 → Nt s (dhear P mx n s len bs).s ∨ Ac P s (dhear P mx n s len bs).s len bs := by
    intro hu
    unfold dhear
    split
    · exact .inl (Nt.refl _)
    · rename_i hd
      split
      · exact .inl (Nt.refl _)
      · split
        · exact .inl (Nt.refl _)
        · rcases rise_take h M hu (bs 0) (w4v bs 5) (w4v bs 9) (bs 13) (len - 19) (fun i => bs (15 + i)) with a | ⟨a0, a1, a2, a3, a4, a5, a6, a7⟩
          · exact .inl a
          · exact .inr ⟨by simpa using hd, a0, a1, a2, a3, a4, a5, a6, a7⟩
  unfold drecv
  split
  · exact .inl (Nt.refl _)
  · rename_i hu
    split
    · rcases hh hu with a | a
      · exact .inl ⟨a.nm, a.zz, a.up, a.ak⟩
      · exact .inr ⟨a.de, a.kd, a.st, a.ss, a.nm, a.ms, a.w5, a.w9, a.out⟩
    · exact hh hu
theorem Nt.write {P : Pm} (s : Sd) (len : Nat) (bs : Nat → Nat) (o : Bool) : Nt s (dwriteS P s len bs o) := by
  unfold dwriteS
  split
  · exact Nt.refl _
  · split
    · exact Nt.same rfl rfl rfl (Ak.refl _)
    · exact Nt.refl _
theorem Nt.tick {P : Pm} (s : Sd) (k : Int) : Nt s (dtickS P s k) := by
  unfold dtickS
  split
  · exact Nt.refl _
  · split
    · exact Nt.refl _
    · split
      · have := Nt.latch { s with dc := tk P.t s.dc k.toNat } 100
        exact ⟨this.nm, this.zz, this.up, this.ak⟩
      · exact Nt.same rfl rfl rfl (Ak.refl _)
theorem Nt.ack (s : Sd) : Nt s (dackS s) := by
  unfold dackS
  split
  · exact Nt.refl _
  · exact Nt.same rfl rfl rfl (ak_ack _)
theorem Nt.reset {P : Pm} {mx n : Nat} {s : Sd} (h : Iv P s) (M : Mo mx n s) (k : Int) : Nt s (dresetS mx n s k) := by
  have hz := (reset_vz (mx := mx) (n := n) s k M.bz M.l0).1
  revert hz
  unfold dresetS
  split
  · exact fun _ => Nt.refl _
  · exact fun hz => Nt.zero h rfl rfl (by rw [hz]; exact Nat.le_refl _) (Ak.off von_new)
theorem Nt.arm (s : Sd) (p : Int) : Nt s { s with ms := arS s.ms p } :=
  Nt.same rfl rfl (by show (arS s.ms p).bs = s.ms.bs; unfold arS; split <;> rfl) (Ak.refl _)
structure Lh (s : Sd) (a b : Nat) : Prop where
  sa : a ≤ vz s.ms.bs
  nb : s.ss ≠ 0 → s.ss = a → b ≤ s.nm
theorem Lh.nt {s s' : Sd} {a b : Nat} (h : Lh s a b) (k : Nt s s') : Lh s' a b := by
  have h1 := h.sa
  have h2 := k.zz
  refine ⟨by omega, fun e0 e => ?_⟩
  rcases k.up with u | u | u
  · rw [k.nm u]; exact h.nb (by omega) (by omega)
  · exact absurd u e0
  · omega
theorem Lh.ac {P : Pm} {s s' : Sd} {a b len : Nat} {bs : Nat → Nat} (h : Lh s a b) (i : Iv P s) (k : Ac P s s' len bs) : (a < s'.ss ∨ a = s'.ss ∧ b < s'.nm) ∧ Lh s' s'.ss s'.nm := by
  have h1 := h.sa
  have h2 := i.z
  have h3 := (i.run k.st).2.2
  have h4 := h.nb h3
  have h5 := k.nm
  have h6 := k.ss
  refine ⟨?_, by rw [k.ms]; omega, fun _ _ => Nat.le_refl _⟩
  by_cases e : s.ss = a
  · have := h4 e
    exact .inr ⟨by omega, by omega⟩
  · exact .inl (by omega)
end Go.Proofs.YtndjepeolamedaaGreat
namespace Go.Proofs.YtndjepeolamedaaGreat
set_option maxRecDepth 100000
open Go.RowKit
theorem enc_kind {k c s n : Nat} {f : Int} {len : Nat} {bs : Nat → Nat} (h : DE (encI k c s n f len bs).2 (encI k c s n f len bs).1 = 0) : (encI k c s n f len bs).2 0 = k := by
  unfold encI at *
  by_cases hE : LW k c s n f len len = 0
  · rw [if_pos hE]
    show PM.sl (fr k c s n f.toNat len bs) (15 + len) 0 = k
    unfold PM.sl PM.ct
    rw [if_pos (by omega)]
    rfl
  · rw [if_neg hE] at h
    exact absurd h (by show DE (fun _ => 0) 0 ≠ 0; decide)
theorem fo_same {P : Pm} {s s' : Sd} {K N fl : Int} {odd : Bool} {len : Nat} {bs : Nat → Nat} {x : Nat} {f1 f2 : Fm} (hK : 1 ≤ K ∧ K ≤ 7) (h1 : Fo P s K N fl odd len bs x f1) (h2 : Fo P s K N fl odd len bs x f2) (ha : Ac P s s' f2.1 f2.2) : f1 = f2 := by
  obtain ⟨a1, a2, a3, a4, a5, a6, a7, a8, a9⟩ := h1
  obtain ⟨b1, b2, b3, b4, b5, b6, b7, b8, b9⟩ := h2
  have : K = 1 ∨ K = 2 ∨ K = 3 ∨ K = 4 ∨ K = 5 ∨ K = 6 ∨ K = 7 := by omega
  rcases this with rfl | rfl | rfl | rfl | rfl | rfl | rfl
  · rw [a1 rfl, b1 rfl]
  · exfalso
    obtain ⟨so, sg, e⟩ := b6 rfl
    have hd := ha.de
    have hk := ha.kd
    rw [e] at hd hk
    have := enc_kind hd
    omega
  · rw [a3 rfl, b3 rfl]
  · rw [a4 rfl, b4 rfl]
  · rw [a5 rfl, b5 rfl]
  · rw [a7 rfl, b7 rfl]
  · by_cases hb : x ≠ 0 ∧ PM.bl x ≤ 8 * (encI 4 P.c (oses s odd) (onum s N) fl len bs).1
    · exfalso
      have h1 := b8 rfl hb
      have h2 := ha.de
      omega
    · rw [a9 rfl hb, b9 rfl hb]
def Tk (K : Int) (s s' : Sd) (f : Fm) : Prop := (1 ≤ K ∧ K ≤ 7) ∧ DE f.2 f.1 = 0 ∧ s'.ss = s.ss ∧ s'.nm ≠ s.nm
theorem rise_step {L : Pl} {s s' : Sd} {K N fl : Int} {odd : Bool} {len : Nat} {bs : Nat → Nat} {x : Nat} {f : Fm} {a b : Nat} (hv : Iv L.P s) (M : Mo L.mx L.n s) (hl : Lh s a b) (ho : Osx L s K N fl odd len bs x s') (hf : 1 ≤ K ∧ K ≤ 7 → Fo L.P s K N fl odd len bs x f) :
    (Tk K s s' f → (a < s'.ss ∨ a = s'.ss ∧ b < s'.nm) ∧ w4v f.2 5 = s'.ss ∧ w4v f.2 9 = s'.nm ∧ (von s'.v = true → f.1 - 19 = L.P.o ∧ s'.v.bs = fun i => f.2 (15 + i)) ∧ Lh s' s'.ss s'.nm) ∧
    (¬ Tk K s s' f → Ak s.v s'.v ∧ Lh s' a b) := by
  have nt : Nt s s' → (Tk K s s' f → (a < s'.ss ∨ a = s'.ss ∧ b < s'.nm) ∧ w4v f.2 5 = s'.ss ∧ w4v f.2 9 = s'.nm ∧ (von s'.v = true → f.1 - 19 = L.P.o ∧ s'.v.bs = fun i => f.2 (15 + i)) ∧ Lh s' s'.ss s'.nm) ∧ (¬ Tk K s s' f → Ak s.v s'.v ∧ Lh s' a b) :=
    fun n => ⟨fun t => absurd (n.nm t.2.2.1) t.2.2.2, fun _ => ⟨n.ak, hl.nt n⟩⟩
  obtain ⟨o1, o8, o9, o10, o11, o12, oN⟩ := ho
  by_cases h7 : 1 ≤ K ∧ K ≤ 7
  · obtain ⟨f2, _, fo2, e⟩ := o1 h7
    have hr := rise_recv (mx := L.mx) (n := L.n) hv M f2.1 f2.2
    rw [← e] at hr
    rcases hr with n | ac
    · exact nt n
    · have hs := fo_same h7 (hf h7) fo2 ac
      subst hs
      have q := hl.ac hv ac
      refine ⟨fun _ => ⟨q.1, ac.w5, ac.w9, ac.out, q.2⟩, fun t => absurd (⟨h7, ac.de, ac.ss, ?_⟩ : Tk K s s' f) t⟩
      have := ac.nm
      omega
  · by_cases h12 : 1 ≤ K ∧ K ≤ 12
    · have : K = 8 ∨ K = 9 ∨ K = 10 ∨ K = 11 ∨ K = 12 := by omega
      rcases this with e | e | e | e | e
      · exact nt (by rw [o8 e]; exact Nt.tick s N)
      · exact nt (by rw [o9 e]; exact Nt.write s len bs odd)
      · exact nt (by rw [o10 e]; exact Nt.ack s)
      · exact nt (by rw [o11 e]; exact Nt.reset hv M N)
      · exact nt (by rw [o12 e]; exact Nt.arm s N)
    · exact nt (by rw [oN h12]; exact Nt.refl s)
theorem lh_new (ms : Ms) : Lh (dnew ms) 0 0 := ⟨Nat.zero_le _, fun h => absurd rfl h⟩
theorem frame_all13 (d m g n mx : Nat) (P : Pm) (U : List Nat) (s : Sd) (K N fl : Int) (odd : Bool) (a : Option Addr) (len cap : Nat) (bs : Nat → Nat) (p : Int) (x : Nat) (w : World) (h : RW w d m g n mx P U s) (hr : Row8 w a len cap bs) (ha : ∀ y, a = some y → 0 < len → y.block < w.heap.size) (hss : s.ss < 4294967296) (hx : x < 4294967296) (hlen : len ≤ 140737488351232) :
    Calls Tryz.prog 23 #[.pointer (some ⟨d, 0, none⟩), .agg #[.int .i64 K, .int .i64 N, .int .i64 fl, .bool odd, .slice a len cap, .int .i64 p, .int .u32 (x : Nat)]] w fun e w' => ∃ (av : Option Addr) (f : Fm) (cv : Nat) (ib : Bool), e = .returned (.tuple #[.slice av f.1 cv, .bool ib]) ∧ Hid (ib = decide (1 ≤ K ∧ K ≤ 7) ∧ Row8 w' av f.1 cv f.2 ∧ Below w.heap.size w w' ∧ (∀ y, av = some y → w.heap.size ≤ y.block ∧ y.block < w'.heap.size) ∧ (1 ≤ K ∧ K ≤ 7 → Fo P s K N fl odd len bs x f) ∧ (¬ (1 ≤ K ∧ K ≤ 7) → DE f.2 f.1 ≠ 0)) := by
  by_cases hK : 1 ≤ K ∧ K ≤ 7
  · refine (frame_op d m g n mx P U s K N fl odd a len cap bs p x w h hr ha hss hx hlen hK).mono ?_
    rintro e w' ⟨v, rfl, h2⟩
    obtain ⟨b2, f, F2, y2, l2, fo⟩ := h2.out
    obtain ⟨av, cv, rfl, rv⟩ := F2.row y2
    exact ⟨av, f, cv, true, rfl, (decide_eq_true hK).symm, rv, b2, fun y hy => own_far F2 y hy, fun _ => fo, fun k => absurd hK k⟩
  · refine (frameN_any d m g n mx P U s K N fl odd a len cap bs p x w h hr ha hss hK).mono ?_
    rintro e w' ⟨rfl, b2⟩
    exact ⟨none, fm0, 0, false, rfl, (decide_eq_false hK).symm, row_nilX _ _, b2, (fun y hy => by cases hy), fun k => absurd k hK, fun _ => by show DE (fun _ => 0) 0 ≠ 0; decide⟩
end Go.Proofs.YtndjepeolamedaaGreat
namespace Go.Proofs.YtndjepeolamedaaGreat
set_option maxRecDepth 100000
open Go.ChangeShapes Go.WideShapes Go.ChangeAt Go.RowKit Go.Joins Go.Deep
def OpRow (w : World) (a : Option Addr) (len : Nat) : Prop := len ≤ 9223372036854775807 ∧ (0 < len → ∃ b off, a = some ⟨b, off, none⟩ ∧ b < w.heap.size ∧ ∀ i, i < len → ∃ (k N fl : Int) (o : Bool) (x : Option Addr) (l c : Nat) (bs : Nat → Nat) (p : Int) (z : Nat),
  w.cell? ⟨b, off + i * 7, none⟩ = some (.int .i64 k) ∧ w.cell? ⟨b, off + i * 7 + 1, none⟩ = some (.int .i64 N) ∧ w.cell? ⟨b, off + i * 7 + 2, none⟩ = some (.int .i64 fl) ∧ w.cell? ⟨b, off + i * 7 + 3, none⟩ = some (.bool o) ∧ w.cell? ⟨b, off + i * 7 + 4, none⟩ = some (.slice x l c) ∧ w.cell? ⟨b, off + i * 7 + 5, none⟩ = some (.int .i64 p) ∧ w.cell? ⟨b, off + i * 7 + 6, none⟩ = some (.int .u32 (z : Nat)) ∧
  Row8 w x l c bs ∧ l ≤ 140737488351232 ∧ N ≤ 9223372036854775807 ∧ z < 4294967296 ∧ ∀ y, x = some y → 0 < l → y.block < w.heap.size)
theorem seven {α : Type} {l : List α} (h : l.length = 7) : ∃ a b c d e f g, l = [a, b, c, d, e, f, g] := by
  match l, h with
  | [a, b, c, d, e, f, g], _ => exact ⟨a, b, c, d, e, f, g, rfl⟩
theorem mem_weightsAll {H : Type} {P : Program} {e : TypeId} {n : Nat} {d : DataW H} (hn : n ∈ d.weights P e) : ∀ {l : List (DataW H)}, d ∈ l → n ∈ DataW.weightsAll P e l
  | [], h => by cases h
  | x :: r, h => by
    simp only [DataW.weightsAll, List.mem_append]
    rcases List.mem_cons.1 h with rfl | h
    · exact .inl hn
    · exact .inr (mem_weightsAll hn h)
section
variable {H : Type} {enc : TypeId × Value → H} {P : Program} {w : World} {base : Nat} {spare : TypeId → Bool} {held : Bool}
theorem trod_struct7 {t : TypeId} {f0 f1 f2 f3 f4 f5 f6 : Field} {fuel : Nat} {cs : List Value} {x : DataW H × List MemPlace} (ht : P.underlying t = some (.struct #[f0, f1, f2, f3, f4, f5, f6])) (h : DataW.trod enc P w base spare held fuel t cs = some x) :
    ∃ y0 y1 y2 y3 y4 y5 y6 n, x.1 = .agg [y0.1, y1.1, y2.1, y3.1, y4.1, y5.1, y6.1] ∧ cs.length = P.cellsOf t ∧ DataW.trod enc P w base spare held n f0.type ((cs.drop f0.offset).take (P.cellsOf f0.type)) = some y0 ∧
      DataW.trod enc P w base spare held n f1.type ((cs.drop f1.offset).take (P.cellsOf f1.type)) = some y1 ∧ DataW.trod enc P w base spare held n f2.type ((cs.drop f2.offset).take (P.cellsOf f2.type)) = some y2 ∧
      DataW.trod enc P w base spare held n f3.type ((cs.drop f3.offset).take (P.cellsOf f3.type)) = some y3 ∧ DataW.trod enc P w base spare held n f4.type ((cs.drop f4.offset).take (P.cellsOf f4.type)) = some y4 ∧
      DataW.trod enc P w base spare held n f5.type ((cs.drop f5.offset).take (P.cellsOf f5.type)) = some y5 ∧ DataW.trod enc P w base spare held n f6.type ((cs.drop f6.offset).take (P.cellsOf f6.type)) = some y6 := by
  obtain ⟨xs, n, _, rfl, hl, hlen, hf⟩ := DataW.trod_struct ht h
  obtain ⟨y0, y1, y2, y3, y4, y5, y6, rfl⟩ := seven (l := xs) (by simpa using hlen)
  exact ⟨y0, y1, y2, y3, y4, y5, y6, n, by simp, hl, by simpa using hf 0 f0 rfl, by simpa using hf 1 f1 rfl, by simpa using hf 2 f2 rfl, by simpa using hf 3 f3 rfl, by simpa using hf 4 f4 rfl, by simpa using hf 5 f5 rfl, by simpa using hf 6 f6 rfl⟩
end
theorem max_i64 {x : Int} (h : (Lit.int .i64 x).wf = true) : x ≤ 9223372036854775807 := by
  have e2 : IntKind.i64.max = 9223372036854775807 := by decide
  simp [Lit.wf, e2] at h
  exact h.2
theorem nat_u32 {x : Int} (h : (Lit.int .u32 x).wf = true) : ∃ z : Nat, x = (z : Int) ∧ z < 4294967296 := by
  have e1 : IntKind.u32.min = 0 := by decide
  have e2 : IntKind.u32.max = 4294967295 := by decide
  simp [Lit.wf, e1, e2] at h
  exact ⟨x.toNat, by omega, by omega⟩
section
variable {H : Type} {enc : TypeId × Value → H} {w : World} {base : Nat} {spare : TypeId → Bool} {held : Bool}
theorem trod_bytes {fuel : Nat} {v : Value} {x : DataW H × List MemPlace} (h : DataW.trod enc Tryz.prog w base spare held fuel 22 [v] = some x) :
    ∃ (a : Option Addr) (l c : Nat) (bs : Nat → Nat), v = .slice a l c ∧ Row8 w a l c bs ∧ (∀ y, a = some y → 0 < l → y.block < w.heap.size) ∧ ((∀ n ∈ x.1.weights Tryz.prog 22, n ≤ reachBytes) → l ≤ 140737488351232) := by
  rcases open_ints Tryz.underlying22 Tryz.underlying5 (by kernel_rfl) h with ⟨hcs, _⟩ | ⟨y, l, c, zs, hcs, _, hl, hm, hz, hx, hcell, hwz⟩
  · simp at hcs
    exact ⟨none, 0, 0, _, hcs, BRow.row8 (zs := []) (.inl ⟨rfl, rfl, rfl, rfl⟩), (fun y hy => by cases hy), fun _ => by omega⟩
  · simp at hcs
    have hll : l ≤ zs.length := by rw [hz]; split <;> omega
    refine ⟨some y, l, c, _, hcs, (⟨fun i hi => ?_, (fun hx => by cases hx), fun x hx i hi => ?_, hl⟩ : Row8 w (some y) l c (fun i => (zs.getD i 0).toNat)), fun x hx h0 => ?_, fun hs => ?_⟩
    · have := bounds_u8 (hwz (zs.getD i 0) (by rw [List.getD_eq_getElem?_getD, List.getElem?_eq_getElem (by omega)]; exact List.getElem_mem _))
      omega
    · cases hx
      have := bounds_u8 (hwz (zs.getD i 0) (by rw [List.getD_eq_getElem?_getD, List.getElem?_eq_getElem (by omega)]; exact List.getElem_mem _))
      rw [hcell i (by omega), Int.toNat_of_nonneg this.1]
    · cases hx
      have := World.block_lt_of_cell? w _ (hcell 0 (by omega))
      simpa [Addr.add] using this
    · rw [hx] at hs
      have h1 := hs (((lits (H := H) .u8 (zs.take l)).length + (lits (H := H) .u8 (zs.drop l)).length) * Tryz.prog.bytesOf 5) (by simp only [DataW.weights, Tryz.underlying22]; exact List.mem_cons_self)
      rw [show Tryz.prog.bytesOf 5 = 1 by kernel_rfl] at h1
      simp [lits] at h1
      unfold reachBytes at h1
      omega
end
section
variable {H : Type} {enc : TypeId × Value → H} {w : World} {base : Nat} {spare : TypeId → Bool} {held : Bool}
theorem trod_op {fuel : Nat} {cs : List Value} {x : DataW H × List MemPlace} (h : DataW.trod enc Tryz.prog w base spare held fuel 50 cs = some x) :
    ∃ (k N fl : Int) (o : Bool) (a : Option Addr) (l c : Nat) (bs : Nat → Nat) (p : Int) (z : Nat), cs = [.int .i64 k, .int .i64 N, .int .i64 fl, .bool o, .slice a l c, .int .i64 p, .int .u32 (z : Nat)] ∧ Row8 w a l c bs ∧ (∀ y, a = some y → 0 < l → y.block < w.heap.size) ∧ N ≤ 9223372036854775807 ∧ z < 4294967296 ∧ ((∀ n ∈ x.1.weights Tryz.prog 50, n ≤ reachBytes) → l ≤ 140737488351232) := by
  obtain ⟨y0, y1, y2, y3, y4, y5, y6, n, hx, hl, g0, g1, g2, g3, g4, g5, g6⟩ := trod_struct7 (Tryz.underlying50) h
  obtain ⟨c0, c1, c2, c3, c4, c5, c6, rfl⟩ := seven (hl.trans (by kernel_rfl))
  have z1 : Tryz.prog.cellsOf 3 = 1 := by kernel_rfl
  have z2 : Tryz.prog.cellsOf 4 = 1 := by kernel_rfl
  have z3 : Tryz.prog.cellsOf 22 = 1 := by kernel_rfl
  have z4 : Tryz.prog.cellsOf 34 = 1 := by kernel_rfl
  simp [z1, z2, z3, z4] at g0 g1 g2 g3 g4 g5 g6
  obtain ⟨k, e0, _⟩ := DataW.trod_int Tryz.underlying3 g0
  obtain ⟨N, e1, _, wN⟩ := DataW.trod_int Tryz.underlying3 g1
  obtain ⟨fl, e2, _⟩ := DataW.trod_int Tryz.underlying3 g2
  obtain ⟨o, e3, _⟩ := DataW.trod_bool Tryz.underlying4 g3
  obtain ⟨a, l, c, bs, e4, R, hlow, hs⟩ := trod_bytes g4
  obtain ⟨p, e5, _⟩ := DataW.trod_int Tryz.underlying3 g5
  obtain ⟨zz, e6, _, wz⟩ := DataW.trod_int Tryz.underlying34 g6
  obtain ⟨z, rfl, hz⟩ := nat_u32 wz
  simp at e0 e1 e2 e3 e5 e6
  refine ⟨k, N, fl, o, a, l, c, bs, p, z, by rw [e0, e1, e2, e3, e4, e5, e6], R, hlow, max_i64 wN, hz, fun hn => hs fun m hm => hn m ?_⟩
  rw [hx]
  have hu : DataW.weights (H := H) Tryz.prog 50 (.agg [y0.1, y1.1, y2.1, y3.1, y4.1, y5.1, y6.1]) = y0.1.weights Tryz.prog 3 ++ (y1.1.weights Tryz.prog 3 ++ (y2.1.weights Tryz.prog 3 ++ (y3.1.weights Tryz.prog 4 ++ (y4.1.weights Tryz.prog 22 ++ (y5.1.weights Tryz.prog 3 ++ (y6.1.weights Tryz.prog 34 ++ [])))))) := by
    simp [DataW.weights, Tryz.underlying50, DataW.weightsEach]
  rw [hu]
  simp [hm]
theorem ops_sized {a : Option Addr} {len cap j : Nat} {d : DataW H} {p : List MemPlace} {ts : List TypeId} {ds : List (DataW H)} (h : DataW.Trod enc Tryz.prog w base spare held 63 (.slice a len cap) d p)
    (hz : (DataW.weightsEach Tryz.prog ts ds).all (· ≤ reachBytes) = true) (ht : ts[j]? = some 63) (hd : ds[j]? = some d) : OpRow w a len := by
  obtain ⟨fuel, hf⟩ := h
  have hw : ∀ n ∈ d.weights Tryz.prog 63, n ≤ reachBytes := fun n hn => by
    have := List.all_eq_true.1 hz _ (DataW.weights_mem_each ht hd n hn)
    simpa using this
  rcases open_slice Tryz.underlying63 hf with ⟨hcs, _⟩ | ⟨y, l, cp, m, n, D, Pl, hcs, _, hl, hm, hmm, hxx, hx⟩
  · simp [Value.cells] at hcs
    obtain ⟨_, rfl, _⟩ := hcs
    exact ⟨by omega, fun h => by omega⟩
  · simp [Value.cells] at hcs
    obtain ⟨rfl, rfl, rfl⟩ := hcs
    simp only [Prod.mk.injEq] at hxx
    rw [hxx.1] at hw
    refine ⟨by unfold maxLen at hm; omega, fun hp => ?_⟩
    have hlm : len ≤ m := by rw [hmm]; split <;> omega
    have ce : Tryz.prog.cellsOf 50 = 7 := by kernel_rfl
    rw [ce] at hx
    have each : ∀ i, i < len → ∃ (k N fl : Int) (o : Bool) (x : Option Addr) (l c : Nat) (bs : Nat → Nat) (p : Int) (z : Nat), (∀ j u, (#[.int .i64 k, .int .i64 N, .int .i64 fl, .bool o, .slice x l c, .int .i64 p, .int .u32 (z : Nat)] : Array Value)[j]? = some u → w.cell? ((y.add (i * 7)).add j) = some u) ∧ Row8 w x l c bs ∧ l ≤ 140737488351232 ∧ N ≤ 9223372036854775807 ∧ z < 4294967296 ∧ (∀ y, x = some y → 0 < l → y.block < w.heap.size) := by
      intro i hi
      obtain ⟨cs, h1, h2⟩ := hx i (by omega)
      obtain ⟨k, N, fl, o, x, l, c, bs, p, z, rfl, R, hlow, hN, hz', hs⟩ := trod_op h2
      obtain ⟨_, _, hcell⟩ := World.cells?_some h1
      refine ⟨k, N, fl, o, x, l, c, bs, p, z, fun j u hu => ?_, R, hs fun q hq => hw q ?_, hN, hz', hlow⟩
      · have hj : j < 7 := by simpa using (Array.getElem?_eq_some_iff.1 hu).1
        rw [hcell j hj]
        simpa using hu
      · simp only [DataW.weights, Tryz.underlying63, List.mem_cons, List.mem_append]
        exact .inr (.inl (mem_weightsAll hq (List.mem_map.2 ⟨i, List.mem_range.2 hi, rfl⟩)))
    obtain ⟨b, off, spot⟩ := y
    obtain ⟨_, _, _, _, _, _, _, _, _, _, h0, _⟩ := each 0 hp
    have hc0 := h0 0 _ rfl
    have hspot : spot = none := by simpa [Addr.add] using World.cell?_spot hc0
    subst hspot
    refine ⟨b, off, rfl, ?_, fun i hi => ?_⟩
    · rw [Go.WideShapes.add_plain, Go.WideShapes.add_plain] at hc0
      exact World.block_lt_of_cell? w _ hc0
    · obtain ⟨k, N, fl, o, x, l, c, bs, p, z, hh, R, hs, hN, hz', hlow⟩ := each i hi
      refine ⟨k, N, fl, o, x, l, c, bs, p, z, ?_, ?_, ?_, ?_, ?_, ?_, ?_, R, hs, hN, hz', hlow⟩
      · have := hh 0 _ rfl; rw [Go.WideShapes.add_plain, Go.WideShapes.add_plain] at this; exact this
      · have := hh 1 _ rfl; rw [Go.WideShapes.add_plain, Go.WideShapes.add_plain] at this; exact this
      · have := hh 2 _ rfl; rw [Go.WideShapes.add_plain, Go.WideShapes.add_plain] at this; exact this
      · have := hh 3 _ rfl; rw [Go.WideShapes.add_plain, Go.WideShapes.add_plain] at this; exact this
      · have := hh 4 _ rfl; rw [Go.WideShapes.add_plain, Go.WideShapes.add_plain] at this; exact this
      · have := hh 5 _ rfl; rw [Go.WideShapes.add_plain, Go.WideShapes.add_plain] at this; exact this
      · have := hh 6 _ rfl; rw [Go.WideShapes.add_plain, Go.WideShapes.add_plain] at this; exact this
end
end Go.Proofs.YtndjepeolamedaaGreat
