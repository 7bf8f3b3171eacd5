/- Part 3 of the texts of HostOwn beside the packed ones: lists of lists, Apart, the law itself. -/
import Derived.Test.YtndjepeolamedaaGreatPkAyHostOwn2
import Derived.Test.YtndjepeolamedaaGreatPkA38
import Derived.Test.YtndjepeolamedaaGreatPkA39
namespace Go.Proofs.YtndjepeolamedaaGreat
set_option maxRecDepth 100000
open Go.RowKit
theorem buildL1 (v : Option Addr) (n c : Nat) (w : World) : (Instr.buildSlice 46 1 #[(0, .slice v n c)]).run Tryz.prog w = .ok (.slice (some ⟨w.heap.size, 0, none⟩) 1 1) (w.alloc (.cells #[.slice v n c] 22)) := by kernel_rfl
theorem buildL2 (v u : Option Addr) (n c m e : Nat) (w : World) : (Instr.buildSlice 46 2 #[(0, .slice v n c), (1, .slice u m e)]).run Tryz.prog w = .ok (.slice (some ⟨w.heap.size, 0, none⟩) 2 2) (w.alloc (.cells #[.slice v n c, .slice u m e] 22)) := by kernel_rfl
theorem sp_row {w : World} {g len : Nat} {bs : Nat → Nat} (h : Row8 w (some ⟨g, 0, none⟩) (len + 9) (len + 9) (sp bs len)) : Row8 w (some ⟨g, 0, none⟩) len (len + 9) bs :=
  (h.upto len (by omega)).congr (fun i hi => by unfold sp; rw [if_pos hi])
theorem sp_byte {len : Nat} {bs : Nat → Nat} (h : ∀ i, i < len → bs i < 256) : ∀ i, i < len + 9 → sp bs len i < 256 := by
  intro i hi
  unfold sp
  split
  · exact h i (by assumption)
  · omega
theorem sp_lst {B g len : Nat} {w : World} {xs : List Value} (h : w.ownsRow B 5 1 (.slice (some ⟨g, 0, none⟩) (len + 9) (len + 9)) (len + 9) xs) (hl : len ≤ 1000) : Lst 0 w (some g) len (len + 9) := by
  rcases h.2 with ⟨hn, _⟩ | ⟨g', cap, cur, hv, hg, hgg, h1, h2, h3, _⟩
  · cases hn
  · simp only [Value.slice.injEq, Option.some.injEq, Addr.mk.injEq, and_true, true_and] at hv
    obtain ⟨rfl, rfl⟩ := hv
    exact ⟨by omega, by omega, h2, (fun e => by cases e), (fun x hx => by cases hx; exact ⟨Nat.zero_le _, cur, hgg, by omega⟩)⟩
theorem fh_len {P : Pm} {s : Sh} {k : Nat} {N fl : Int} {odd : Bool} {len : Nat} {bs : Nat → Nat} {x : Nat} {f : Fm} (hk : 1 ≤ k ∧ k ≤ 4) (fo : Fh P s (k : Int) N fl odd len bs x f) : f.1 ≤ 27 := by
  have : k = 1 ∨ k = 2 ∨ k = 3 ∨ k = 4 := by omega
  rcases this with rfl | rfl | rfl | rfl
  · rw [fo.1 rfl]; exact encI_len _ _ _ _ _ _ _
  · rw [fo.2.1 rfl]; exact encI_len _ _ _ _ _ _ _
  · rw [fo.2.2.1 rfl]; exact encI_len _ _ _ _ _ _ _
  · rw [fo.2.2.2.1 rfl]; exact encI_len _ _ _ _ _ _ _
theorem Row8.in_ {w : World} {a : Option Addr} {len cap : Nat} {bs : Nat → Nat} (h : Row8 w a len cap bs) {y : Addr} (hy : a = some y) (h0 : 0 < len) : y.block < w.heap.size := by
  have := World.block_lt_of_cell? w _ (h.src y hy 0 h0)
  simpa [Addr.add] using this
def KLo (w : World) (bl : List Nat) : List (Nat × Option Obj) := bl.map (fun k => (k, w.heap[k]?))
theorem Bth.tellO {w0 w : World} {L : Plh} {s t : Sh} {U V : List Nat} (h : Bth w0 w L s t [] U V) (bl : List Nat) (hb : ∀ k, k ∈ bl → k < w.heap.size ∧ k ∉ U ∧ k ∉ V) : Bth w0 w { L with K := KLo w bl } s t [] U V :=
  h.tell _ (fun x hx => by
    obtain ⟨k, hk, rfl⟩ := List.mem_map.1 hx
    exact ⟨hb k hk, rfl⟩)
theorem Bth.keptO {w0 w wb : World} {d e : Nat} {P : Pm} {s t : Sh} {U V bl : List Nat} (h : Bth w0 w ⟨d, e, P, KLo wb bl⟩ s t [] U V) {k : Nat} (hk : k ∈ bl) : (k < w.heap.size ∧ k ∉ U ∧ k ∉ V) ∧ w.heap[k]? = wb.heap[k]? :=
  h.kp (k, wb.heap[k]?) (List.mem_map.2 ⟨k, hk, rfl⟩)
set_option maxRecDepth 100000 in
set_option maxHeartbeats 16000000 in
theorem hown_go (a0 : Option Addr) (cap0 : Nat) (b0 : Nat → Nat) (a1 : Option Addr) (cap1 : Nat) (b1 : Nat → Nat) (w : World) (r0 : Row8 w a0 2 cap0 b0) (r1 : Row8 w a1 1 cap1 b1) (lo0 : ∀ y, a0 = some y → y.block < w.heap.size) (lo1 : ∀ y, a1 = some y → y.block < w.heap.size) :
    Calls Tryz.prog 11 #[.slice a0 2 cap0, .slice a1 1 cap1] w fun e w' => e = .returned (.bool true) ∧ Below w.heap.size w w' := by
  have hb1 := buildL1
  have hb2 := buildL2
  have HA : Hid (_) := And.intro r0 (And.intro r1 (And.intro lo0 lo1))
  clear r0 r1 lo0 lo1
  go_enter Tryz.func11, Tryz.ntmps11
  go_wp2_with fail
  refine (awake14 _).mono ?_
  rintro e w1 ⟨rfl, b1⟩
  have H1 : Hid (_) := b1
  clear b1
  go_wp2_with fail
  refine (small_any w1).mono ?_
  rintro e w2 ⟨rfl, b2⟩
  have qN := newH_any P0 P0_ok w2
  have H2 : Hid (_) := b2
  clear b2
  go_wp2_with fail
  refine qN.mono ?_
  rintro e w3 ⟨d, rfl, h3⟩
  have H3 : Hid (_) := h3.out
  clear qN h3
  go_wp2_with fail
  refine (small_any w3).mono ?_
  rintro e w4 ⟨rfl, b4⟩
  have qN := hrnew_any P0 P0_ok w4
  have H4 : Hid (_) := b4
  clear b4
  go_wp2_with fail
  refine qN.mono ?_
  rintro e w6 ⟨e', V, rfl, h6⟩
  obtain ⟨b6, R6, hV⟩ := h6.out
  obtain ⟨b3, U, D3, hU⟩ := H3.out
  obtain ⟨U6, V6, T6⟩ : Twh w1 w6 ⟨d, e', P0, []⟩ hnew := twh_made H2.out (b3.trans (H4.out.mono b3.size)) (D3.below H4.out) hU b6 R6 hV rfl
  have bw6 : Below w.heap.size w w6 := H1.out.trans (T6.bel.mono H1.out.size)
  have qS := spare_row a0 2 cap0 b0 w6 (HA.out.1.below bw6) (by omega)
  have H6 : Hid (_) := And.intro T6 bw6
  have H6lo : Hid (w1.heap.size ≤ w6.heap.size) := T6.bel.size
  clear qN h6 b6 R6 hV b3 D3 hU T6 bw6 H2 H3 H4
  go_wp2_with fail
  refine qS.mono ?_
  rintro e w7 ⟨rfl, h7⟩
  clear qS
  obtain ⟨T6, bw6⟩ := H6.out
  obtain ⟨o7, b7⟩ := h7.out
  have hby0 := HA.out.1.byte
  obtain ⟨_, _, hsl, rW⟩ := own_row8 o7 (sp_byte hby0)
  simp only [Value.slice.injEq, true_and] at hsl
  obtain ⟨rfl, rfl⟩ := hsl
  have T7 : Bth w1 w7 ⟨d, e', P0, [(w6.heap.size, w7.heap[w6.heap.size]?)]⟩ hnew hnew [] U6 V6 := (T6.below b7).tell _ (fun x hx => by
    simp only [List.mem_cons, List.not_mem_nil, or_false] at hx
    subst hx
    exact ⟨⟨(o7.lt _ rfl).2, T6.far (Nat.le_refl _)⟩, rfl⟩)
  have qW := hwrite_any d P0 U6 hnew (some ⟨w6.heap.size, 0, none⟩) 2 11 b0 false w7 T7.dv (sp_row rW)
  rw [(hh_start b0).1] at qW
  have bw7 : Below w.heap.size w w7 := bw6.trans (b7.mono bw6.size)
  have H7 : Hid (_) := And.intro T7 (And.intro o7 (And.intro rW bw7))
  clear T6 bw6 o7 b7 hby0 rW T7 h7 H6 bw7
  go_wp2_with fail
  refine qW.mono ?_
  rintro e w8 ⟨rfl, h8⟩
  clear qW
  obtain ⟨U8, g8, D8⟩ := h8.out
  obtain ⟨T7, o7, rW, bw7⟩ := H7.out
  have T8 := T7.dev g8 D8
  have bw8 : Below w.heap.size w w8 := H1.out.trans (T8.bel.mono H1.out.size)
  have qW := hrwrite_any e' P0 V6 hnew a0 2 cap0 b0 false w8 T8.rw (HA.out.1.below bw8)
  rw [(hh_start b0).1] at qW
  have H8 : Hid (_) := T8
  clear h8 g8 D8 T7 o7 rW bw7 T8 bw8
  go_wp2_with fail
  refine qW.mono ?_
  rintro e w9 ⟨rfl, h9⟩
  clear qW
  obtain ⟨V9, g9, R9⟩ := h9.out
  have T9 := H8.out.ref g9 R9
  obtain ⟨T7, o7, rW, bw7⟩ := H7.out
  have bw9 : Below w.heap.size w w9 := H1.out.trans (T9.bel.mono H1.out.size)
  have eg : w9.heap[w6.heap.size]? = w7.heap[w6.heap.size]? := (T9.kp (w6.heap.size, w7.heap[w6.heap.size]?) (by simp)).2
  have rW9 := rW.blkH (w' := w9) (fun y hy => by cases hy; exact eg)
  have o9 := own_keep o7 (fun k hk => by cases hk; exact eg)
  have qK := kept_row w6.heap.size a0 2 cap0 b0 w9 (HA.out.1.below bw9) (by omega) rW9
  have H9 : Hid (_) := And.intro T9 (And.intro o9 (H7.out.2.1.lt _ rfl))
  clear h9 g9 R9 T9 T7 o7 rW bw7 bw9 eg rW9 o9 H7 H8
  go_wp2_with fail
  refine qK.mono ?_
  rintro e wk ⟨rfl, mk, hwk⟩
  clear qK
  subst hwk
  obtain ⟨T9, o9, hlt9⟩ := H9.out
  have bk : Below w9.heap.size w9 (w9.drewN mk) := below_drewN (Below.refl _ _) mk
  generalize w9.drewN mk = wk at *
  have L1 : Lst 0 wk (some w6.heap.size) 2 11 := sp_lst (own_below o9 bk) (by omega)
  have O1 := Olist.one (some w6.heap.size, 2, 11) L1
  have b10 : Below w9.heap.size w9 (wk.alloc (.cells #[elv (some w6.heap.size, 2, 11)] 22)) := bk.alloc bk.size _
  have n10 : (wk.alloc (.cells #[elv (some w6.heap.size, 2, 11)] 22)).heap.size = wk.heap.size + 1 := by simp
  have T10 : Bth w1 (wk.alloc (.cells #[elv (some w6.heap.size, 2, 11)] 22)) ⟨d, e', P0, []⟩ (hwriteS P0 hnew 2 b0 false) (hwriteS P0 hnew 2 b0 false) [] U8 V9 := (T9.below b10).tell [] (fun x hx => by cases hx)
  have kg := T9.kp (w6.heap.size, w7.heap[w6.heap.size]?) (by simp)
  have sk := bk.size
  have lo1 : ∀ k, k ∈ obl (.slice (some ⟨wk.heap.size, 0, none⟩) 1 1) [(some w6.heap.size, 2, 11)] → w1.heap.size ≤ k ∧ k ∉ U8 ∧ k ∉ V9 := by
    intro k hk
    simp [obl, Value.ownBlock] at hk
    have s1 := T9.bel.size
    rcases hk with rfl | rfl
    · exact ⟨by omega, T9.far (by omega)⟩
    · exact ⟨H6lo.out, kg.1.2⟩
  have HT : Hid (_) := And.intro T10 (And.intro O1 lo1)
  have HIh : Hid (Ih P0 (hwriteS P0 hnew 2 b0 false)) := (Ih.new_ P0).write 2 b0 false
  clear T9 o9 hlt9 bk L1 O1 b10 n10 T10 kg sk lo1 H9
  go_wp2_with fail
  go_loopw [11, 12, 13, 14, 15, 16, 17, 18] (fun cl ck _ _ _ _ _ _ wr => ∃ (k : Nat) (s : Sh) (es : List El), 1 ≤ k ∧ k ≤ 5 ∧ ck = .int .i64 ((k : Nat) : Int) ∧ Hid (∃ U V, Bth w1 wr ⟨d, e', P0, []⟩ s s [] U V ∧ Ih P0 s ∧ s.L.length ≤ 4 * k ∧ (k ≤ 4 → Hh k s) ∧ (k = 5 → von s.v = true ∧ ∀ i, i < 1 → vout s.v i = b1 i) ∧ Olist wr cl es ∧ es.length = 2 * k - 1 ∧ ∀ j, j ∈ obl cl es → w1.heap.size ≤ j ∧ j ∉ U ∧ j ∉ V)) (fun _ ck _ _ _ _ _ _ _ => 6 - (intOf ck).toNat)
  case atStart => exact ⟨1, _, _, by omega, by omega, rfl, _, _, HT.out.1, HIh.out, Nat.zero_le _, fun _ => (hh_start b0).2, fun e => by omega, HT.out.2.1, rfl, HT.out.2.2⟩
  case round =>
    clear HT HIh
    obtain ⟨k, s, es, hk1, hk2, rfl, hR⟩ := hrel
    obtain ⟨U, V, T, hv, hLn, hHh, hfin, hO, hlen, hlo⟩ := hR.out
    by_cases hc : k ≤ 4
    · have hi1 : (k : Int) ≤ 4 := by omega
      have Tk := T.tellO (obl u11 es) (fun j hj => ⟨hO.lt j hj, (hlo j hj).2⟩)
      have qA := ksend2_any w1 wr ⟨d, e', P0, KLo wr (obl u11 es)⟩ s U V Tk hv (by omega)
      obtain ⟨hE0, hKs, hSn⟩ := hh_send ⟨hk1, hc⟩ (hHh hc)
      rw [hE0] at qA
      have HR : Hid (_) := And.intro hv (And.intro hLn (And.intro hO (And.intro hlen (And.intro hlo (And.intro hKs (And.intro hSn (And.intro hk1 (And.intro hc (And.intro T.bel.size hE0)))))))))
      clear T hv hLn hHh hfin hO hlen hlo hR hk1 hk2 hc Tk hE0 hKs hSn
      go_wp2_with fail
      refine qA.mono ?_
      rintro e x1 ⟨o1, c1, rfl, g1⟩
      clear qA
      have qB := g1.out
      unfold Snt2 at qB
      clear g1
      go_wp2_with fail
      refine qB.mono ?_
      rintro e x2 ⟨vy, rfl, g2⟩
      clear qB
      obtain ⟨U2, V2, B2, Ls1, far1⟩ := g2.out
      obtain ⟨hv, hLn, hO, hlen, hlo, hKs, hSn, hk1, hc, s1, hE0⟩ := HR.out
      have B2 : Bth w1 x2 ⟨d, e', P0, KLo wr (obl u11 es)⟩ (hsendS P0 s) (hsendS P0 s) [] U2 V2 := B2
      have hv2 : Ih P0 (hsendS P0 s) := hv.send P0_ok
      have hL2 : (hsendS P0 s).L.length ≤ 4 * k + 2 := by have := hsend_len P0 s; omega
      have O2 : Olist x2 u11 es := hO.keep (fun j hj => (B2.keptO hj).2)
      have lo2 : ∀ j, j ∈ obl u11 es → w1.heap.size ≤ j ∧ j ∉ U2 ∧ j ∉ V2 := fun j hj => ⟨(hlo j hj).1, (B2.keptO hj).1.2⟩
      have hFl : (hsendF P0 s).1 ≤ 27 := hsendF_len P0 s
      have Ls1 : Lst 0 x2 o1 (hsendF P0 s).1 c1 := Ls1
      have hne1 : ∀ j, j ∈ obl u11 es → o1 ≠ some j := fun j hj he => by have := hO.lt j hj; have := (far1 j he).1; omega
      generalize hSS : hsendS P0 s = t at *
      have bw2 : Below w.heap.size w x2 := H1.out.trans (B2.bel.mono H1.out.size)
      have sw2 := bw2.size
      have qF := hframe_op e' P0 V2 t (k : Int) 1 0 false a1 1 cap1 b1 0 0 x2 B2.rw (HA.out.2.1.below bw2) (fun y hy _ => Nat.lt_of_lt_of_le (HA.out.2.2.2 y hy) sw2) hv2.ss (by omega) (by omega) (by omega)
      have B2' := B2.tell [] (fun x hx => by cases hx)
      have H2x : Hid (_) := And.intro B2' (And.intro hv2 (And.intro hL2 (And.intro O2 (And.intro lo2 (And.intro Ls1 (And.intro (fun x hx => ⟨Nat.le_trans s1 (far1 x hx).1, (far1 x hx).2⟩ : ∀ x, o1 = some x → w1.heap.size ≤ x ∧ x < x2.heap.size ∧ x ∉ U2 ∧ x ∉ V2) (And.intro hne1 (And.intro hlen (And.intro hKs (And.intro hSn (And.intro hk1 hc)))))))))))
      clear g2 B2 far1 hv hLn hO hlen hlo hKs hSn hk1 hc s1 hv2 hL2 O2 lo2 Ls1 hne1 bw2 sw2 B2' HR hSS
      go_wp2_with fail
      refine qF.mono ?_
      rintro e x3 ⟨v, rfl, g3⟩
      clear qF
      obtain ⟨bF, f, F1, y1, l1, fo⟩ := g3.out
      obtain ⟨av, cv, rfl, rb⟩ := F1.row y1
      have farb : ∀ y, av = some y → x2.heap.size ≤ y.block ∧ y.block < x3.heap.size := fun y hy => own_far F1 y hy
      have hf27 : f.1 ≤ 27 := fh_len (by obtain ⟨_, _, _, _, _, _, _, _, _, _, _, hk1, hc⟩ := H2x.out; exact ⟨hk1, hc⟩) fo
      have qS := spare_row av f.1 cv f.2 x3 rb (by omega)
      have H3x : Hid (_) := And.intro bF (And.intro rb (And.intro farb (And.intro y1 fo)))
      clear g3 bF F1 rb farb y1 fo
      go_wp2_with fail
      refine qS.mono ?_
      rintro e x4 ⟨rfl, g4⟩
      clear qS
      obtain ⟨o4, b4⟩ := g4.out
      obtain ⟨bF, rb, farb, y1, fo⟩ := H3x.out
      obtain ⟨B2, hv2, hL2, O2, lo2, Ls1, far1, hne1, hlen, hKs, hSn, hk1, hc⟩ := H2x.out
      have rW := own_slice8 o4 (sp_byte y1)
      have b24 : Below x2.heap.size x2 x4 := bF.trans (b4.mono bF.size)
      have hgl : x3.heap.size < x4.heap.size := (o4.lt _ rfl).2
      have s23 := bF.size
      have Bk := (B2.below b24).tellO (x3.heap.size :: (o1.toList ++ obl u11 es ++ av.toList.map (·.block))) (fun j hj => by
        simp only [List.mem_cons, List.mem_append, List.mem_map, Option.mem_toList] at hj
        have s24 := b24.size
        rcases hj with rfl | (hj | hj) | ⟨y, hy, rfl⟩
        · exact ⟨hgl, B2.far s23⟩
        · exact ⟨Nat.lt_of_lt_of_le (far1 j hj).2.1 s24, (far1 j hj).2.2⟩
        · exact ⟨Nat.lt_of_lt_of_le (O2.lt j hj) s24, (lo2 j hj).2⟩
        · have := b4.size
          exact ⟨by have := (farb y hy).2; omega, B2.far (farb y hy).1⟩)
      obtain ⟨hE, hN, hFn⟩ := hh_recv ⟨hk1, hc⟩ hv2 hKs hSn fo
      have qR := hreceive_any d P0 U2 t (some ⟨x3.heap.size, 0, none⟩) f.1 (f.1 + 9) f.2 x4 Bk.dv (sp_row rW) (by omega)
      rw [hE] at qR
      have H4x : Hid (_) := And.intro Bk (And.intro (rb.below b4) (And.intro rW (And.intro o4 (And.intro b24 (And.intro hE (And.intro hN hFn))))))
      clear g4 o4 b4 bF rb farb y1 fo B2 hv2 hL2 O2 lo2 Ls1 far1 hne1 hlen hKs hSn hk1 hc rW b24 hgl s23 Bk hE hN hFn
      go_wp2_with fail
      refine qR.mono ?_
      rintro e x5 ⟨rfl, g5⟩
      clear qR
      obtain ⟨U5, gr5, D5⟩ := g5.out
      obtain ⟨Bk, rb4, rW, o4, b24, hE, hN, hFn⟩ := H4x.out
      obtain ⟨B2, hv2, hL2, O2, lo2, Ls1, far1, hne1, hlen, hKs, hSn, hk1, hc⟩ := H2x.out
      have B5 := Bk.dev gr5 D5
      have kp5 : ∀ j, j ∈ x3.heap.size :: (o1.toList ++ obl u11 es ++ av.toList.map (·.block)) → x5.heap[j]? = x4.heap[j]? := fun j hj => (B5.keptO hj).2
      have rb5 := rb4.blkH (w' := x5) (fun y hy => kp5 y.block (by simp [hy]))
      have qR := hrreceive_any e' P0 V2 t av f.1 cv f.2 x5 B5.rw rb5 (by omega)
      rw [hE] at qR
      have H5x : Hid (_) := B5
      clear g5 gr5 D5 Bk rb4 rW o4 b24 hE hN hFn B2 hv2 hL2 O2 lo2 Ls1 far1 hne1 hlen hKs hSn hk1 hc B5 kp5 rb5
      go_wp2_with fail
      refine qR.mono ?_
      rintro e x6 ⟨rfl, g6⟩
      clear qR
      obtain ⟨V6, gr6, R6⟩ := g6.out
      have B6 := H5x.out.ref gr6 R6
      obtain ⟨Bk, rb4, rW, o4, b24, hE, hN, hFn⟩ := H4x.out
      have kp6 : ∀ j, j ∈ x3.heap.size :: (o1.toList ++ obl u11 es ++ av.toList.map (·.block)) → x6.heap[j]? = x4.heap[j]? := fun j hj => (B6.keptO hj).2
      have rb6 := rb4.blkH (w' := x6) (fun y hy => kp6 y.block (by simp [hy]))
      have rW6 := rW.blkH (w' := x6) (fun y hy => by cases hy; exact kp6 x3.heap.size (by simp))
      have qK := kept_row x3.heap.size av f.1 cv f.2 x6 rb6 (by omega) rW6
      have H6x : Hid (_) := B6
      clear g6 gr6 R6 B6 Bk rb4 rW o4 b24 hE hN hFn kp6 rb6 rW6 H5x
      go_wp2_with fail
      refine qK.mono ?_
      rintro e xk ⟨rfl, mk, hxk⟩
      clear qK
      subst hxk
      have bk : Below x6.heap.size x6 (x6.drewN mk) := below_drewN (Below.refl _ _) mk
      generalize x6.drewN mk = x7 at *
      obtain ⟨Bk, rb4, rW, o4, b24, hE, hN, hFn⟩ := H4x.out
      obtain ⟨B2, hv2, hL2, O2, lo2, Ls1, far1, hne1, hlen, hKs, hSn, hk1, hc⟩ := H2x.out
      have B7 := H6x.out.below bk
      have kp7 : ∀ j, j ∈ x3.heap.size :: (o1.toList ++ obl u11 es ++ av.toList.map (·.block)) → (j < x7.heap.size ∧ j ∉ U5 ∧ j ∉ V6) ∧ x7.heap[j]? = x4.heap[j]? := fun j hj => B7.keptO hj
      have O4 : Olist x4 u11 es := O2.keep (fun j hj => b24.block j (O2.lt j hj))
      have O7 : Olist x7 u11 es := O4.keep (fun j hj => (kp7 j (by simp [hj])).2)
      have La : Lst 0 x7 o1 (hsendF P0 s).1 c1 := Ls1.keepO (fun x hx => ((kp7 x (by simp [hx])).2).trans (b24.block x (far1 x hx).2.1))
      have Lb : Lst 0 x7 (some x3.heap.size) f.1 (f.1 + 9) := (sp_lst o4 (by omega)).keepO (fun x hx => by cases hx; exact (kp7 x3.heap.size (by simp)).2)
      obtain ⟨EA, hEA⟩ : ∃ e : El, e = (o1, (hsendF P0 s).1, c1) := ⟨_, rfl⟩
      obtain ⟨EB, hEB⟩ : ∃ e : El, e = (some x3.heap.size, f.1, f.1 + 9) := ⟨_, rfl⟩
      have b8 : Below x7.heap.size x7 (x7.alloc (.cells #[.slice (sa o1) (hsendF P0 s).1 c1, .slice (some ⟨x3.heap.size, 0, none⟩) f.1 (f.1 + 9)] 22)) := (Below.refl _ _).alloc (Nat.le_refl _) _
      have e8 := heap_alloc_new x7 (.cells #[.slice (sa o1) (hsendF P0 s).1 c1, .slice (some ⟨x3.heap.size, 0, none⟩) f.1 (f.1 + 9)] 22)
      have hx8 : (x7.alloc (.cells #[.slice (sa o1) (hsendF P0 s).1 c1, .slice (some ⟨x3.heap.size, 0, none⟩) f.1 (f.1 + 9)] 22)).ownsRow 0 22 1 u11 es.length (es.map elv) := own_below O7.row b8
      have p0 := cell_of_row _ _ 0 _ _ _ e8
      have p1 := cell_of_row _ _ 1 _ _ _ e8
      have hln : es.length < 1000000 := by omega
      have H7x : Hid (_) := And.intro B7 (And.intro kp7 (And.intro O7 (And.intro La (And.intro Lb b8))))
      clear Bk rb4 rW o4 b24 hE hN hFn B2 hv2 hL2 O2 lo2 Ls1 far1 hne1 hlen hKs hSn hk1 hc B7 kp7 O4 O7 La Lb b8 e8 H6x bk
      go_wp2_with (at_builtin; refine wpList_appS rfl (.tmp 109) (.tmp 112) rfl es.length x7.heap.size (es.map elv) (.slice (sa o1) (hsendF P0 s).1 c1) (.slice (some ⟨x3.heap.size, 0, none⟩) f.1 (f.1 + 9)) u11 rfl hx8 rfl p0 p1 rfl rfl hln ?_)
      intro v9 x9 own9 gr9 bl9
      clear p0 p1 hx8
      have HG : Hid (_) := And.intro own9 (And.intro gr9 bl9)
      clear own9 gr9 bl9
      go_wp2_with fail
      go_roundw
      case rel =>
        obtain ⟨own9, gr9, bl9⟩ := HG.out
        obtain ⟨B7, kp7, O7, La, Lb, b8⟩ := H7x.out
        obtain ⟨Bk, rb4, rW, o4, b24, hE, hN, hFn⟩ := H4x.out
        obtain ⟨bF, rb, farb, y1, fo⟩ := H3x.out
        obtain ⟨B2, hv2, hL2, O2, lo2, Ls1, far1, hne1, hlen, hKs, hSn, hk1, hc⟩ := H2x.out
        have s23 := bF.size
        have hkb : ∀ j, j ∈ obl u11 es → j < x2.heap.size := fun j hj => O2.lt j hj
        have O8 := O7.keep (fun j hj => b8.block j (O7.lt j hj))
        have La8 := La.keepO (fun x hx => b8.block x (La.lt hx).2)
        have Lb8 := Lb.keepO (fun x hx => b8.block x (Lb.lt hx).2)
        have O9 : Olist x9 v9 (es ++ [EA, EB]) := by
          refine O8.two (by rw [hEA]; exact La8) (by rw [hEB]; exact Lb8) (fun x hx hy => ?_) (fun e he x hx => ?_) (fun x hx => ?_) (by rw [hEA, hEB]; exact own9) (fun j hj hne => gr9.block j hj hne)
          · rw [hEA] at hx; rw [hEB] at hy
            have h1 := (far1 x hx).2.1
            have h2 : x3.heap.size = x := by simpa using hy
            omega
          · have hj := hkb x (obl_e he hx)
            refine ⟨fun h => hne1 x (obl_e he hx) (by rw [hEA] at h; exact h), fun h => ?_⟩
            rw [hEB] at h
            have h2 : x3.heap.size = x := by simpa using h
            omega
          · have hj := hkb x (obl_v hx)
            refine ⟨fun h => hne1 x (obl_v hx) (by rw [hEA] at h; exact h), fun h => ?_⟩
            rw [hEB] at h
            have h2 : x3.heap.size = x := by simpa using h
            omega
        have hU8 := B7.below b8
        have hkv : ∀ j, j ∈ u11.ownBlock.toList → j ∉ U5 ∧ j ∉ V6 ∧ w1.heap.size ≤ j := fun j hj => by
          have hv : u11.ownBlock = some j := by simpa using hj
          have := kp7 j (by simp [obl_v hv])
          exact ⟨this.1.2.1, this.1.2.2, (lo2 j (obl_v hv)).1⟩
        have q9 : Off u11.ownBlock.toList _ x9 := ⟨gr9.os, gr9.tape, gr9.output, gr9.size, fun j hj hne => gr9.block j hj (fun h => hne (by simp [← h]))⟩
        have B9 := hU8.others q9 (fun j hj hm => (hkv j hm).1 hj) (fun j hj hm => (hkv j hm).2.1 hj) (fun j hj => (hkv j hj).2.2) [] (fun x hx => by cases hx)
        have s87 := b8.size
        have s17 := B7.bel.size
        refine ⟨k + 1, _, es ++ [EA, EB], by omega, by omega, by go_num, U5, V6, B9, hv2.recv P0_ok f.1 f.2 y1, by have := hrecv_len P0 t f.1 f.2; omega, fun h => hN (by omega), fun h => hFn (by omega), O9, by rw [List.length_append, hlen]; show 2 * k - 1 + 2 = _; omega, fun j hj => ?_⟩
        unfold obl at hj
        rcases List.mem_append.1 hj with h1 | h1
        · have hv9 : v9.ownBlock = some j := by simpa using h1
          rcases bl9 with h | h
          · have hv : u11.ownBlock = some j := h.symm.trans hv9
            have := kp7 j (by simp [obl_v hv])
            exact ⟨(lo2 j (obl_v hv)).1, this.1.2⟩
          · have hj2 : x7.heap.size + 1 = j := Option.some.inj (h.symm.trans hv9)
            exact ⟨by omega, B7.far (by omega)⟩
        · obtain ⟨e, he, hx⟩ := List.mem_filterMap.1 h1
          rcases List.mem_append.1 he with he | he
          · have := kp7 j (by simp [obl_e he hx])
            exact ⟨(lo2 j (obl_e he hx)).1, this.1.2⟩
          · simp at he
            rcases he with rfl | rfl
            · rw [hEA] at hx
              have := kp7 j (by simp [show o1 = some j from hx])
              exact ⟨(far1 j hx).1, this.1.2⟩
            · rw [hEB] at hx
              have hj3 : x3.heap.size = j := by simpa using hx
              have := kp7 x3.heap.size (by simp)
              rw [← hj3]
              exact ⟨by have := B2.bel.size; omega, this.1.2⟩
      case measure => obtain ⟨_, _, _, _, _, _, _, _, _, _, _, hk1, hc⟩ := H2x.out; simp [intOf] <;> omega
    · have hi1 : ¬ (k : Int) ≤ 4 := by omega
      obtain rfl : k = 5 := by omega
      have hlen9 : es.length = 9 := by omega
      have qS := hseeS_any d P0 U s wr T.dv
      have HR : Hid (_) := And.intro T (And.intro hv (And.intro hLn (And.intro (hfin rfl) (And.intro hO (And.intro hlen9 hlo)))))
      clear T hv hLn hHh hfin hO hlen hlo hR hk1 hk2 hc hlen9
      go_wp2_with fail
      refine qS.mono ?_
      rintro e x1 ⟨za, zc, rfl, g1⟩
      clear qS
      obtain ⟨T, hv, hLn, hfin, hO, hlen9, hlo⟩ := HR.out
      have fz : x1.ownsRow wr.heap.size 5 1 (.slice za P0.i zc) P0.i (CB (vout s.v) P0.i) := g1.out.1
      obtain ⟨oa, ca_, hva, La⟩ := Lst.ofOwn fz (by show (1 : Nat) ≤ 1000000; omega)
      simp only [Value.slice.injEq, true_and] at hva
      obtain ⟨rfl, rfl⟩ := hva
      have qS := hseeS_any d P0 U s x1 (T.below g1.out.2.2).dv
      have H1x : Hid (_) := And.intro La.out g1.out.2.2
      clear g1 T hv hLn hfin hO hlen9 hlo fz La
      go_wp2_with fail
      refine qS.mono ?_
      rintro e x2 ⟨ya, yc, rfl, g2⟩
      clear qS
      have fy : x2.ownsRow x1.heap.size 5 1 (.slice ya P0.i yc) P0.i (CB (vout s.v) P0.i) := g2.out.1
      obtain ⟨ob, cb_, hvb, Lb⟩ := Lst.ofOwn fy (by show (1 : Nat) ≤ 1000000; omega)
      simp only [Value.slice.injEq, true_and] at hvb
      obtain ⟨rfl, rfl⟩ := hvb
      obtain ⟨T, hv, hLn, hfin, hO, hlen9, hlo⟩ := HR.out
      obtain ⟨La, b1x⟩ := H1x.out
      have b2x := g2.out.2.2
      have b12 : Below wr.heap.size wr x2 := b1x.trans (b2x.mono b1x.size)
      have O2 : Olist x2 u11 es := hO.keep (fun j hj => b12.block j (hO.lt j hj))
      have La2 : Lst 0 x2 oa P0.i zc := (La.base (Nat.zero_le _)).keepO (fun x hx => b2x.block x (La.lt hx).2)
      have Lb2 : Lst 0 x2 ob P0.i yc := Lb.out.base (Nat.zero_le _)
      have fa : ∀ x, oa = some x → wr.heap.size ≤ x ∧ x < x1.heap.size := fun x hx => La.lt hx
      have fb : ∀ x, ob = some x → x1.heap.size ≤ x ∧ x < x2.heap.size := fun x hx => Lb.out.lt hx
      have bW : Below x2.heap.size x2 (((x2.alloc (.cells #[.int .i64 (s.st : Nat), .int .u32 (s.ss : Nat), .int .u32 (s.nm : Nat), .int .u32 (s.sn : Nat), .int .i64 (s.dc : Nat), .int .i64 s.v.lat, .bool (vreq s.v), .bool (von s.v), .slice (sa oa) P0.i zc] 57)).alloc (.cells #[.int .i64 (s.st : Nat), .int .u32 (s.ss : Nat), .int .u32 (s.nm : Nat), .int .u32 (s.sn : Nat), .int .i64 (s.dc : Nat), .int .i64 s.v.lat, .bool (vreq s.v), .bool (von s.v), .slice (sa ob) P0.i yc] 57)).alloc (.cells #[.slice (sa oa) P0.i zc, .slice (sa ob) P0.i yc] 22)) := (((Below.refl _ _).alloc (Nat.le_refl _) _).alloc (by simp) _).alloc (by simp; omega) _
      have eW := heap_alloc_new ((x2.alloc (.cells #[.int .i64 (s.st : Nat), .int .u32 (s.ss : Nat), .int .u32 (s.nm : Nat), .int .u32 (s.sn : Nat), .int .i64 (s.dc : Nat), .int .i64 s.v.lat, .bool (vreq s.v), .bool (von s.v), .slice (sa oa) P0.i zc] 57)).alloc (.cells #[.int .i64 (s.st : Nat), .int .u32 (s.ss : Nat), .int .u32 (s.nm : Nat), .int .u32 (s.sn : Nat), .int .i64 (s.dc : Nat), .int .i64 s.v.lat, .bool (vreq s.v), .bool (von s.v), .slice (sa ob) P0.i yc] 57)) (.cells #[.slice (sa oa) P0.i zc, .slice (sa ob) P0.i yc] 22)
      have nW : ((x2.alloc (.cells #[.int .i64 (s.st : Nat), .int .u32 (s.ss : Nat), .int .u32 (s.nm : Nat), .int .u32 (s.sn : Nat), .int .i64 (s.dc : Nat), .int .i64 s.v.lat, .bool (vreq s.v), .bool (von s.v), .slice (sa oa) P0.i zc] 57)).alloc (.cells #[.int .i64 (s.st : Nat), .int .u32 (s.ss : Nat), .int .u32 (s.nm : Nat), .int .u32 (s.sn : Nat), .int .i64 (s.dc : Nat), .int .i64 s.v.lat, .bool (vreq s.v), .bool (von s.v), .slice (sa ob) P0.i yc] 57)).heap.size = x2.heap.size + 1 + 1 := by simp
      rw [nW] at eW
      have hx8 : (((x2.alloc (.cells #[.int .i64 (s.st : Nat), .int .u32 (s.ss : Nat), .int .u32 (s.nm : Nat), .int .u32 (s.sn : Nat), .int .i64 (s.dc : Nat), .int .i64 s.v.lat, .bool (vreq s.v), .bool (von s.v), .slice (sa oa) P0.i zc] 57)).alloc (.cells #[.int .i64 (s.st : Nat), .int .u32 (s.ss : Nat), .int .u32 (s.nm : Nat), .int .u32 (s.sn : Nat), .int .i64 (s.dc : Nat), .int .i64 s.v.lat, .bool (vreq s.v), .bool (von s.v), .slice (sa ob) P0.i yc] 57)).alloc (.cells #[.slice (sa oa) P0.i zc, .slice (sa ob) P0.i yc] 22)).ownsRow 0 22 1 u11 es.length (es.map elv) := own_below O2.row bW
      have p0 := cell_of_row _ _ 0 _ _ _ eW
      have p1 := cell_of_row _ _ 1 _ _ _ eW
      have hln : es.length < 1000000 := by omega
      have nW3 : (((x2.alloc (.cells #[.int .i64 (s.st : Nat), .int .u32 (s.ss : Nat), .int .u32 (s.nm : Nat), .int .u32 (s.sn : Nat), .int .i64 (s.dc : Nat), .int .i64 s.v.lat, .bool (vreq s.v), .bool (von s.v), .slice (sa oa) P0.i zc] 57)).alloc (.cells #[.int .i64 (s.st : Nat), .int .u32 (s.ss : Nat), .int .u32 (s.nm : Nat), .int .u32 (s.sn : Nat), .int .i64 (s.dc : Nat), .int .i64 s.v.lat, .bool (vreq s.v), .bool (von s.v), .slice (sa ob) P0.i yc] 57)).alloc (.cells #[.slice (sa oa) P0.i zc, .slice (sa ob) P0.i yc] 22)).heap.size = x2.heap.size + 3 := by simp
      have H2x : Hid (_) := And.intro (T.below b12) (And.intro hv (And.intro hLn (And.intro hfin (And.intro O2 (And.intro hlen9 (And.intro hlo (And.intro La2 (And.intro Lb2 (And.intro fa (And.intro fb (And.intro bW (And.intro (fun j hj => hO.lt j hj : ∀ j, j ∈ obl u11 es → j < wr.heap.size) (And.intro T (And.intro b1x.size nW3))))))))))))))
      clear g2 fy Lb T hv hLn hfin hO hlen9 hlo La b1x b2x b12 O2 La2 Lb2 fa fb bW eW nW nW3 H1x HR
      go_wp2_with (at_builtin; refine wpList_appS rfl (.tmp 118) (.tmp 123) rfl es.length (x2.heap.size + 1 + 1) (es.map elv) (.slice (sa oa) P0.i zc) (.slice (sa ob) P0.i yc) u11 rfl hx8 rfl p0 p1 rfl rfl hln ?_)
      intro v9 x9 own9 gr9 bl9
      clear p0 p1 hx8
      obtain ⟨T2, hv, hLn, hfin, O2, hlen9, hlo, La2, Lb2, fa, fb, bW, hlt, T, s1x, nW3⟩ := H2x.out
      obtain ⟨EL, hEL⟩ : ∃ l : List El, l = es ++ [(oa, P0.i, zc), (ob, P0.i, yc)] := ⟨_, rfl⟩
      have hEn : EL.length = es.length + 2 := by rw [hEL]; simp
      have O3 := O2.keep (fun j hj => bW.block j (O2.lt j hj))
      have O9 : Olist x9 v9 EL := by
        rw [hEL]
        refine O3.two (La2.keepO (fun x hx => bW.block x (La2.lt hx).2)) (Lb2.keepO (fun x hx => bW.block x (Lb2.lt hx).2)) (fun x hx hy => ?_) (fun e he x hx => ?_) (fun x hx => ?_) own9 (fun j hj hne => gr9.block j hj hne)
        · have := fa x hx; have := fb x hy; omega
        · have := hlt x (obl_e he hx)
          exact ⟨fun h => by have := fa x h; omega, fun h => by have := fb x h; omega⟩
        · have := hlt x (obl_v hx)
          exact ⟨fun h => by have := fa x h; omega, fun h => by have := fb x h; omega⟩
      have hkv : ∀ j, j ∈ u11.ownBlock.toList → j ∉ U ∧ j ∉ V ∧ w1.heap.size ≤ j := fun j hj => by
        have hv : u11.ownBlock = some j := by simpa using hj
        exact ⟨(hlo j (obl_v hv)).2.1, (hlo j (obl_v hv)).2.2, (hlo j (obl_v hv)).1⟩
      have q9 : Off u11.ownBlock.toList _ x9 := ⟨gr9.os, gr9.tape, gr9.output, gr9.size, fun j hj hne => gr9.block j hj (fun h => hne (by simp [← h]))⟩
      have B9 := (T2.below bW).others q9 (fun j hj hm => (hkv j hm).1 hj) (fun j hj hm => (hkv j hm).2.1 hj) (fun j hj => (hkv j hj).2.2) [] (fun x hx => by cases hx)
      have lo9 : ∀ j, j ∈ EL.filterMap (·.1) → w1.heap.size ≤ j ∧ j ∉ U ∧ j ∉ V := by
        intro j hj
        obtain ⟨e, he, hx⟩ := List.mem_filterMap.1 hj
        rw [hEL] at he
        have sT := T.bel.size
        rcases List.mem_append.1 he with he | he
        · exact hlo j (obl_e he hx)
        · simp at he
          rcases he with rfl | rfl
          · have h1 := fa j hx
            exact ⟨by omega, T.far h1.1⟩
          · have h1 := fb j hx
            exact ⟨by omega, T.far (by omega)⟩
      obtain ⟨g9, mc, hv9⟩ : ∃ g mc, v9 = .slice (some ⟨g, 0, none⟩) (es.length + 2) mc := by
        rcases own9.2 with ⟨hn, h0⟩ | ⟨g, cap, cur, hv, _⟩
        · omega
        · exact ⟨g, cap, hv⟩
      subst hv9
      have qP := apart_els EL g9 mc x9 (by rw [hEn]; exact O9) (by omega) (by omega)
      rw [hEn] at qP
      have H9 : Hid (_) := And.intro B9 (And.intro lo9 (And.intro hv (And.intro hLn hfin)))
      clear own9 gr9 bl9 T2 hv hLn hfin O2 hlen9 hlo La2 Lb2 fa fb bW hlt T s1x O3 O9 hkv q9 B9 lo9 hEL hEn H2x nW3
      go_wp2_with fail
      refine qP.mono ?_
      rintro e xA ⟨rfl, kA⟩
      clear qP
      obtain ⟨B9, lo9, hv, hLn, hfin⟩ := H9.out
      have qA : Off (EL.filterMap (·.1)) x9 xA := ⟨kA.os, kA.tape, kA.output, kA.size, fun j hj hn => kA.block j ⟨hj, hn⟩⟩
      have BA := B9.others qA (fun j hj hm => (lo9 j hm).2.1 hj) (fun j hj hm => (lo9 j hm).2.2 hj) (fun j hj => (lo9 j hj).1) [] (fun x hx => by cases hx)
      have qS := hseeS_any d P0 U s xA BA.dv
      rw [hfin.1] at qS
      have HA9 : Hid (_) := And.intro BA (And.intro hv (And.intro hLn hfin.2))
      clear B9 lo9 hv hLn hfin qA BA kA H9
      go_wp2_with fail
      refine qS.mono ?_
      rintro e xB ⟨na, nc, rfl, gB⟩
      clear qS
      obtain ⟨BA, hv, hLn, hvo⟩ := HA9.out
      have bN : Below xB.heap.size xB (xB.alloc (.cells #[.int .i64 (s.st : Nat), .int .u32 (s.ss : Nat), .int .u32 (s.nm : Nat), .int .u32 (s.sn : Nat), .int .i64 (s.dc : Nat), .int .i64 s.v.lat, .bool (vreq s.v), .bool true, .slice na P0.i nc] 57)) := (Below.refl _ _).alloc (Nat.le_refl _) _
      have nN : (xB.alloc (.cells #[.int .i64 (s.st : Nat), .int .u32 (s.ss : Nat), .int .u32 (s.nm : Nat), .int .u32 (s.sn : Nat), .int .i64 (s.dc : Nat), .int .i64 s.v.lat, .bool (vreq s.v), .bool true, .slice na P0.i nc] 57)).heap.size = xB.heap.size + 1 := by simp
      have sB := gB.out.2.2.size
      have fN : ∀ y, na = some y → xA.heap.size ≤ y.block ∧ y.block < xB.heap.size := fun y hy => own_far gB.out.1 y hy
      have BN := (BA.below (gB.out.2.2.trans (bN.mono sB))).tellO (xB.heap.size :: na.toList.map (·.block)) (fun j hj => by
        simp only [List.mem_cons, List.mem_map, Option.mem_toList] at hj
        rcases hj with rfl | ⟨y, hy, rfl⟩
        · exact ⟨by omega, BA.far sB⟩
        · have h := fN y hy
          exact ⟨by omega, BA.far h.1⟩)
      obtain ⟨Bx, yx⟩ := id BN.dv
      have hby := hsend_byte P0 s yx.apb
      have qS := hsend_any d P0 U s (xB.alloc (.cells #[.int .i64 (s.st : Nat), .int .u32 (s.ss : Nat), .int .u32 (s.nm : Nat), .int .u32 (s.sn : Nat), .int .i64 (s.dc : Nat), .int .i64 s.v.lat, .bool (vreq s.v), .bool true, .slice na P0.i nc] 57)) BN.dv hv.ms ⟨hv.st1, hv.st5⟩ (hv.sent P0_ok) (by omega)
      have HB9 : Hid (_) := And.intro BN (And.intro (gB.out.2.1.below bN) (And.intro (heap_alloc_new xB (.cells #[.int .i64 (s.st : Nat), .int .u32 (s.ss : Nat), .int .u32 (s.nm : Nat), .int .u32 (s.sn : Nat), .int .i64 (s.dc : Nat), .int .i64 s.v.lat, .bool (vreq s.v), .bool true, .slice na P0.i nc] 57)) (And.intro hv (And.intro hLn (And.intro hvo hby)))))
      clear BA hv hLn hvo bN nN sB fN BN yx hby gB HA9
      go_wp2_with fail
      generalize xB.alloc (.cells #[.int .i64 (s.st : Nat), .int .u32 (s.ss : Nat), .int .u32 (s.nm : Nat), .int .u32 (s.sn : Nat), .int .i64 (s.dc : Nat), .int .i64 s.v.lat, .bool (vreq s.v), .bool true, .slice na P0.i nc] 57) = xC at *
      refine qS.mono ?_
      rintro e xD ⟨vx, rfl, gD⟩
      clear qS
      obtain ⟨UD, grD, DD, fx, kx⟩ := gD.out
      obtain ⟨BN, rN, eN, hv, hLn, hvo, hby⟩ := HB9.out
      have BD := BN.dev grD DD
      obtain ⟨ax, cx, rfl, _⟩ := fx.row hby
      have qS := hrsend_any e' P0 V s xD BD.rw hv (by omega)
      have HD : Hid (_) := And.intro BD (And.intro fx BN)
      clear gD grD DD kx BN rN eN hv hLn hvo hby BD fx
      go_wp2_with fail
      refine qS.mono ?_
      rintro e xE ⟨vy, rfl, gE⟩
      clear qS
      obtain ⟨VE, grE, RE, fy, ky⟩ := gE.out
      obtain ⟨BD, fx, BN⟩ := HD.out
      obtain ⟨_, rN, eN, hv, hLn, hvo, hby⟩ := HB9.out
      have BE := BD.ref grE RE
      have fxE : Fr xE xC.heap.size (.slice ax (hsendF P0 s).1 cx) (hsendF P0 s) := own_offk fx grE.off (fun k hk hm => by
        have := fx.ge k hk
        have := BN.rw.ult k hm
        omega)
      obtain ⟨ax', cx', exx, rx⟩ := fxE.row hby
      simp only [Value.slice.injEq, true_and] at exx
      obtain ⟨rfl, rfl⟩ := exx
      obtain ⟨ay, cy, rfl, ry⟩ := fy.row hby
      have q1 := conv_any ax (hsendF P0 s).1 cx (hsendF P0 s).2 xE rx
      have q2 := conv_any ay (hsendF P0 s).1 cy (hsendF P0 s).2 xE ry
      obtain ⟨X, hX⟩ : ∃ X, BA (hsendF P0 s).2 (hsendF P0 s).1 = X := ⟨_, rfl⟩
      rw [hX] at q1 q2
      have kE : ∀ j, j ∈ xB.heap.size :: na.toList.map (·.block) → xE.heap[j]? = xC.heap[j]? := fun j hj => (BE.keptO hj).2
      have eE := (kE xB.heap.size (by simp)).trans eN
      have rNE := rN.blkH (w' := xE) (fun y hy => kE y.block (by simp [hy]))
      have bwE : Below w.heap.size w xE := H1.out.trans (BE.bel.mono H1.out.size)
      have q3 := conv_any na P0.i nc (vout s.v) xE rNE
      have q4 := conv_any a1 1 cap1 b1 xE (HA.out.2.1.below bwE)
      obtain ⟨Y, hY⟩ : ∃ Y, BA b1 1 = Y := ⟨_, rfl⟩
      rw [hY] at q4
      rw [show BA (vout s.v) P0.i = Y by rw [← hY]; exact BA_congr _ _ 1 hvo] at q3
      have c7 : xE.cell? ⟨xB.heap.size, 7, none⟩ = some (.bool true) := cell_of_row xE _ 7 _ _ _ eE
      have c8 : xE.cell? ⟨xB.heap.size, 8, none⟩ = some (.slice na P0.i nc) := cell_of_row xE _ 8 _ _ _ eE
      have HF : Hid (_) := bwE
      clear gE grE RE fy ky BD fx BN rN eN hv hLn hvo hby BE fxE rx ry hX kE eE rNE bwE hY HD HB9
      go_wp2_with fail
      go_ret
      exact ⟨by simp, HF.out⟩
theorem hostOwn_walk (a0 : Option Addr) (len0 cap0 : Nat) (z0 : List Int) (a1 : Option Addr) (len1 cap1 : Nat) (z1 : List Int) (w : World) (w0 : BRow .u8 w a0 len0 cap0 z0) (w1 : BRow .u8 w a1 len1 cap1 z1) :
    Calls Tryz.prog 11 #[.slice a0 len0 cap0, .slice a1 len1 cap1] w fun e w' => e = .returned (.bool true) ∧ Below w.heap.size w w' := by
  have r0 := w0.row8
  have r1 := w1.row8
  by_cases h0 : len0 = 2 ∧ len1 = 1
  · obtain ⟨rfl, rfl⟩ := h0
    exact hown_go a0 cap0 _ a1 cap1 _ w r0 r1 (fun y hy => r0.in_ hy (by omega)) (fun y hy => r1.in_ hy (by omega))
  · have hcs : ((len0 : Int) != 2) = true ∨ ((len0 : Int) != 2) = false ∧ ((len1 : Int) != 1) = true := by
      by_cases h : len0 = 2
      · right; exact ⟨by rw [h]; rfl, by have : len1 ≠ 1 := fun e => h0 ⟨h, e⟩; simp; omega⟩
      · left; simp; omega
    clear h0 r0 r1 w0 w1
    rcases hcs with e0 | ⟨e0, e1⟩
    all_goals
      go_enter Tryz.func11, Tryz.ntmps11
      go_wp2_with fail
      refine (awake14 _).mono ?_
      rintro e w1 ⟨rfl, b1⟩
      go_wp2_with fail
      go_ret
      exact ⟨rfl, b1⟩
end Go.Proofs.YtndjepeolamedaaGreat
