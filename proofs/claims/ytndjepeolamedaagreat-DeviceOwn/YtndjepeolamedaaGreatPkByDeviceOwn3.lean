/- Part 3 of the texts of DeviceOwn beside the packed ones: lists of lists, Apart, the law itself. -/
import Derived.Test.YtndjepeolamedaaGreatPkByDeviceOwn2
import Derived.Test.YtndjepeolamedaaGreatPkByDeviceOwn1
import Derived.Test.YtndjepeolamedaaGreatPkB17
namespace Go.Proofs.YtndjepeolamedaaGreat
set_option maxRecDepth 100000
open Go.RowKit
section
variable {w0 w w' : World} {L : Pl} {s t : Sd} {U V l : List Nat}
theorem Bt.others (h : Bt w0 w L s t [] U V) (q : Off l w w') (hU : ∀ k, k ∈ U → k ∉ l) (hV : ∀ k, k ∈ V → k ∉ l) (hl : ∀ k, k ∈ l → w0.heap.size ≤ k) (K : List (Nat × Option Obj)) (hK : ∀ x, x ∈ K → (x.1 < w'.heap.size ∧ x.1 ∉ U ∧ x.1 ∉ V) ∧ w'.heap[x.1]? = x.2) : Bt w0 w' { L with K := K } s t [] U V :=
  ⟨q.below h.bel hl h.bel.size, h.dv.off q hU, h.rw.off q hV, h.uv, h.vb, fun k hk => by simp at hk, hK⟩
end
def KLd (w : World) (bl : List Nat) : List (Nat × Option Obj) := bl.map (fun k => (k, w.heap[k]?))
theorem Bt.tellO {w0 w : World} {L : Pl} {s t : Sd} {U V : List Nat} (h : Bt w0 w L s t [] U V) (bl : List Nat) (hb : ∀ k, k ∈ bl → k < w.heap.size ∧ k ∉ U ∧ k ∉ V) : Bt w0 w { L with K := KLd w bl } s t [] U V :=
  h.tell _ (fun x hx => by
    obtain ⟨k, hk, rfl⟩ := List.mem_map.1 hx
    exact ⟨hb k hk, rfl⟩)
theorem Bt.keptO {w0 w wb : World} {d m g e r q n mx : Nat} {P : Pm} {s t : Sd} {U V bl : List Nat} (h : Bt w0 w ⟨d, m, g, e, r, q, n, mx, P, KLd wb bl⟩ s t [] U V) {k : Nat} (hk : k ∈ bl) : (k < w.heap.size ∧ k ∉ U ∧ k ∉ V) ∧ w.heap[k]? = wb.heap[k]? :=
  h.kp (k, wb.heap[k]?) (List.mem_map.2 ⟨k, hk, rfl⟩)
theorem buildL1d (v : Option Addr) (n c : Nat) (w : World) : (Instr.buildSlice 46 1 #[(0, .slice v n c)]).run Tryz.prog w = .ok (.slice (some ⟨w.heap.size, 0, none⟩) 1 1) (w.alloc (.cells #[.slice v n c] 22)) := by kernel_rfl
theorem buildL2d (v u : Option Addr) (n c m e : Nat) (w : World) : (Instr.buildSlice 46 2 #[(0, .slice v n c), (1, .slice u m e)]).run Tryz.prog w = .ok (.slice (some ⟨w.heap.size, 0, none⟩) 2 2) (w.alloc (.cells #[.slice v n c, .slice u m e] 22)) := by kernel_rfl
theorem spd_row {w : World} {g len : Nat} {bs : Nat → Nat} (h : Row8 w (some ⟨g, 0, none⟩) (len + 9) (len + 9) (sp bs len)) : Row8 w (some ⟨g, 0, none⟩) len (len + 9) bs :=
  (h.upto len (by omega)).congr (fun i hi => by unfold sp; rw [if_pos hi])
theorem spd_byte {len : Nat} {bs : Nat → Nat} (h : ∀ i, i < len → bs i < 256) : ∀ i, i < len + 9 → sp bs len i < 256 := by
  intro i hi
  unfold sp
  split
  · exact h i (by assumption)
  · omega
theorem spd_lst {B g len : Nat} {w : World} {xs : List Value} (h : w.ownsRow B 5 1 (.slice (some ⟨g, 0, none⟩) (len + 9) (len + 9)) (len + 9) xs) (hl : len ≤ 1000) : Lst 0 w (some g) len (len + 9) := by
  rcases h.2 with ⟨hn, _⟩ | ⟨g', cap, cur, hv, hg, hgg, h1, h2, h3, _⟩
  · cases hn
  · simp only [Value.slice.injEq, Option.some.injEq, Addr.mk.injEq, and_true, true_and] at hv
    obtain ⟨rfl, rfl⟩ := hv
    exact ⟨by omega, by omega, h2, (fun e => by cases e), (fun x hx => by cases hx; exact ⟨Nat.zero_le _, cur, hgg, by omega⟩)⟩
theorem fo_len27 {P : Pm} {s : Sd} {k : Nat} {N fl : Int} {len : Nat} {bs : Nat → Nat} {x : Nat} {f : Fm} (hk : 1 ≤ k ∧ k ≤ 4) (fo : Fo P s (k : Int) N fl false len bs x f) : f.1 ≤ 27 := by
  have : k = 1 ∨ k = 2 ∨ k = 3 ∨ k = 4 := by omega
  rcases this with rfl | rfl | rfl | rfl
  · rw [fo.1 rfl]; exact encI_len _ _ _ _ _ _ _
  · rw [fo.2.1 rfl rfl]; exact encI_len _ _ _ _ _ _ _
  · rw [fo.2.2.1 rfl]; exact encI_len _ _ _ _ _ _ _
  · rw [fo.2.2.2.1 rfl]; exact encI_len _ _ _ _ _ _ _
theorem Row8.ind {w : World} {a : Option Addr} {len cap : Nat} {bs : Nat → Nat} (h : Row8 w a len cap bs) {y : Addr} (hy : a = some y) (h0 : 0 < len) : y.block < w.heap.size := by
  have := World.block_lt_of_cell? w _ (h.src y hy 0 h0)
  simpa [Addr.add] using this
theorem drecv_len27 (P : Pm) (mx n : Nat) (s : Sd) (len : Nat) (bs : Nat → Nat) : (drecv P mx n s len bs).f.1 ≤ 27 := by
  have he : ∀ k c s n f len bs, (encF k c s n f len bs).1 ≤ 27 := fun k c s n f len bs => encI_len k c s n f len bs
  have h0 : fm0.1 ≤ 27 := by show 0 ≤ 27; omega
  have hb : ∀ s, (dbegin P mx n s).f.1 ≤ 27 := fun s => by
    unfold dbegin
    split
    · exact he _ _ _ _ _ _ _
    · split
      · exact h0
      · exact he _ _ _ _ _ _ _
  have ht : ∀ k ss num fl len bs, (dtake P mx n s k ss num fl len bs).f.1 ≤ 27 := fun k ss num fl len bs => by
    unfold dtake dwish drefuse
    repeat' split
    all_goals first | exact he _ _ _ _ _ _ _ | exact hb _
  have hh : (dhear P mx n s len bs).f.1 ≤ 27 := by
    unfold dhear
    repeat' split
    all_goals first | exact h0 | exact ht _ _ _ _ _ _
  unfold drecv
  split
  · exact h0
  · split <;> exact hh
set_option maxRecDepth 100000 in
set_option maxHeartbeats 16000000 in
theorem down_go (a0 : Option Addr) (cap0 : Nat) (b0 : Nat → Nat) (a1 : Option Addr) (cap1 : Nat) (b1 : Nat → Nat) (w : World) (r0 : Row8 w a0 1 cap0 b0) (r1 : Row8 w a1 2 cap1 b1) (lo0 : ∀ y, a0 = some y → y.block < w.heap.size) (lo1 : ∀ y, a1 = some y → y.block < w.heap.size) :
    Calls Tryz.prog 3 #[.slice a0 1 cap0, .slice a1 2 cap1] w fun e w' => e = .returned (.bool true) ∧ Below w.heap.size w w' := by
  have hb1 := buildL1d
  have hb2 := buildL2d
  have HA : Hid (_) := And.intro r0 (And.intro r1 (And.intro lo0 lo1))
  clear r0 r1 lo0 lo1
  go_enter Tryz.func3, Tryz.ntmps3
  go_wp2_with fail
  refine (awake13 _).mono ?_
  rintro e w1 ⟨rfl, b1⟩
  have H1 : Hid (_) := b1
  clear b1
  have qM := new_ok 16 w1 (by omega)
  go_wp2_with fail
  refine qM.mono ?_
  rintro e w4 ⟨m, g, rfl, h4⟩
  obtain ⟨lm, lg, o4, M4⟩ := h4.out
  have b4 : Below w1.heap.size w1 w4 := o4.below (Below.refl _ _) (by simp) (Nat.le_refl _)
  have qR := rnew_ok 16 w4 (by omega)
  have H4 : Hid (_) := And.intro b4 (And.intro M4 (And.intro lm lg))
  clear qM h4 lm lg o4 M4 b4
  go_wp2_with fail
  refine qR.mono ?_
  rintro e w5 ⟨r, q, rfl, h5⟩
  obtain ⟨lr, lq, o5, R5⟩ := h5.out
  obtain ⟨b4, M4, lm, lg⟩ := H4.out
  have M5 := M4.off o5 (by simp) (by simp)
  have b5 : Below w1.heap.size w1 w5 := o5.below b4 (by simp) b4.size
  have m4 := M4.lt
  have g4 := M4.lg
  have s4 := b4.size
  have H5 : Hid (_) := And.intro b5 (And.intro M5 (And.intro R5 (And.intro (And.intro lm (And.intro lg (And.intro (by omega : w1.heap.size ≤ r) (by omega : w1.heap.size ≤ q)))) (by omega : m ≠ r ∧ m ≠ q ∧ g ≠ r ∧ g ≠ q))))
  clear qR h5 lr lq o5 R5 b4 M4 lm lg M5 b5 m4 g4 s4 H4
  go_wp2_with fail
  refine (small_any w5).mono ?_
  rintro e w6 ⟨rfl, b6'⟩
  obtain ⟨b5, M5, R5, h0, hne⟩ := H5.out
  have b6 := b5.trans (b6'.mono b5.size)
  have M6 := M5.off (Off.of_below (l := []) b6') (by simp) (by simp)
  have R6 := R5.off (Off.of_below (l := []) b6') (by simp) (by simp)
  have qN := newD_ok m g 16 9 P0 P0_ok M0 w6 M6 (by omega) (by decide) (open0 9 (by omega)).1
  rw [(open0 9 (by omega)).2] at qN
  have H6 : Hid (_) := And.intro b6 (And.intro R6 (And.intro h0 hne))
  clear b5 M5 R5 h0 hne b6 M6 R6 b6' H5
  go_wp2_with fail
  refine qN.mono ?_
  rintro e w7 ⟨d, rfl, h7⟩
  clear qN
  have H7 : Hid (_) := h7.out
  clear h7
  go_wp2_with fail
  refine (small_any w7).mono ?_
  rintro e w8 ⟨rfl, b8'⟩
  obtain ⟨b6, R6, h0, hne⟩ := H6.out
  obtain ⟨U, o7, D7, hU⟩ := H7.out
  have R7 := R6.off o7 (by simp; omega) (by simp; omega)
  have R8 := R7.off (Off.of_below (l := []) b8') (by simp) (by simp)
  have qN := rnew_any r q 16 9 P0 P0_ok M0 w8 R8 (by omega) (by decide)
  rw [(open0 9 (by omega)).1, (open0 9 (by omega)).2] at qN
  have rl := R6.lt
  have ql := R6.lg
  have H8 : Hid (_) := And.intro b6 (And.intro (o7.trans (Off.of_below b8')) (And.intro (D7.below b8') (And.intro hU (And.intro h0 (And.intro hne (And.intro rl (And.intro ql b8'.size)))))))
  clear b6 R6 h0 hne o7 D7 hU R7 R8 rl ql b8' H6 H7
  go_wp2_with fail
  refine qN.mono ?_
  rintro e w9 ⟨pr, rfl, h9⟩
  obtain ⟨o9, _, D9, _⟩ := h9.out
  obtain ⟨e', V, rfl, RR', hV⟩ := D9 trivial
  obtain ⟨b6, o7, D7, hU, h0, hne, rl, ql, s78⟩ := H8.out
  have T : Two w1 w9 ⟨d, m, g, e', r, q, 16, 9, P0, []⟩ (dnew M0) := two_made b6 o7 D7 hU o9 RR' hV h0 hne ⟨rl, ql⟩ rfl
  have HT : Hid (_) := T
  clear qN h9 o9 D9 RR' hV b6 o7 D7 hU h0 hne rl ql T H8 s78
  obtain ⟨U6, V6, T6⟩ := HT.out
  have bw6 : Below w.heap.size w w9 := H1.out.trans (T6.bel.mono H1.out.size)
  have qS := spare_row a0 1 cap0 b0 w9 (HA.out.1.below bw6) (by omega)
  have H6 : Hid (_) := And.intro T6 bw6
  have H6lo : Hid (w1.heap.size ≤ w9.heap.size) := T6.bel.size
  clear T6 bw6 HT
  go_wp2_with fail
  refine qS.mono ?_
  rintro e y7 ⟨rfl, h7⟩
  clear qS
  obtain ⟨T6, bw6⟩ := H6.out
  obtain ⟨o7, b7⟩ := h7.out
  have hby0 := HA.out.1.byte
  obtain ⟨_, _, hsl, rW⟩ := own_row8 o7 (spd_byte hby0)
  simp only [Value.slice.injEq, true_and] at hsl
  obtain ⟨rfl, rfl⟩ := hsl
  have T7 : Bt w1 y7 ⟨d, m, g, e', r, q, 16, 9, P0, [(w9.heap.size, y7.heap[w9.heap.size]?)]⟩ (dnew M0) (dnew M0) [] U6 V6 := (T6.below b7).tell _ (fun x hx => by
    simp only [List.mem_cons, List.not_mem_nil, or_false] at hx
    subst hx
    exact ⟨⟨(o7.lt _ rfl).2, T6.far (Nat.le_refl _)⟩, rfl⟩)
  have qW := dvwrite_any d m g 16 9 P0 U6 (dnew M0) (some ⟨w9.heap.size, 0, none⟩) 1 10 b0 false y7 T7.dv (spd_row rW)
  rw [(dk_start b0).1] at qW
  have H7 : Hid (_) := And.intro T7 (And.intro o7 rW)
  clear T6 bw6 o7 b7 hby0 rW T7 h7 H6
  go_wp2_with fail
  refine qW.mono ?_
  rintro e y8 ⟨rfl, h8⟩
  clear qW
  obtain ⟨U8, g8, D8⟩ := h8.out
  obtain ⟨T7, o7, rW⟩ := H7.out
  have T8 := T7.dev g8 D8
  have bw8 : Below w.heap.size w y8 := H1.out.trans (T8.bel.mono H1.out.size)
  have qW := rvwrite_any e' r q 16 9 P0 V6 (dnew M0) a0 1 cap0 b0 false y8 T8.rw (HA.out.1.below bw8)
  rw [(dk_start b0).1] at qW
  have H8 : Hid (_) := T8
  clear h8 g8 D8 T7 o7 rW T8 bw8
  go_wp2_with fail
  refine qW.mono ?_
  rintro e y9 ⟨rfl, h9⟩
  clear qW
  obtain ⟨V9, g9, R9⟩ := h9.out
  have T9 := H8.out.ref g9 R9
  obtain ⟨T7, o7, rW⟩ := H7.out
  have bw9 : Below w.heap.size w y9 := H1.out.trans (T9.bel.mono H1.out.size)
  have eg : y9.heap[w9.heap.size]? = y7.heap[w9.heap.size]? := (T9.kp (w9.heap.size, y7.heap[w9.heap.size]?) (by simp)).2
  have rW9 := rW.blk (w' := y9) (fun y hy => by cases hy; exact eg)
  have o9 := own_keep o7 (fun k hk => by cases hk; exact eg)
  have qK := kept_row w9.heap.size a0 1 cap0 b0 y9 (HA.out.1.below bw9) (by omega) rW9
  have H9 : Hid (_) := And.intro T9 o9
  clear h9 g9 R9 T9 T7 o7 rW bw9 eg rW9 o9 H7 H8
  go_wp2_with fail
  refine qK.mono ?_
  rintro e wk ⟨rfl, mk, hwk⟩
  clear qK
  subst hwk
  obtain ⟨T9, o9⟩ := H9.out
  have bk : Below y9.heap.size y9 (y9.drewN mk) := below_drewN (Below.refl _ _) mk
  generalize y9.drewN mk = wk at *
  have L1 : Lst 0 wk (some w9.heap.size) 1 10 := spd_lst (own_below o9 bk) (by omega)
  have O1 := Olist.one (some w9.heap.size, 1, 10) L1
  have b10 : Below y9.heap.size y9 (wk.alloc (.cells #[elv (some w9.heap.size, 1, 10)] 22)) := bk.alloc bk.size _
  have T10 : Bt w1 (wk.alloc (.cells #[elv (some w9.heap.size, 1, 10)] 22)) ⟨d, m, g, e', r, q, 16, 9, P0, []⟩ (dwriteS P0 (dnew M0) 1 b0 false) (dwriteS P0 (dnew M0) 1 b0 false) [] U8 V9 := (T9.below b10).tell [] (fun x hx => by cases hx)
  have kg := T9.kp (w9.heap.size, y7.heap[w9.heap.size]?) (by simp)
  have sk := bk.size
  have lo1 : ∀ k, k ∈ obl (.slice (some ⟨wk.heap.size, 0, none⟩) 1 1) [(some w9.heap.size, 1, 10)] → w1.heap.size ≤ k ∧ k ∉ U8 ∧ k ∉ V9 := by
    intro k hk
    simp [obl, Value.ownBlock] at hk
    have s1 := T9.bel.size
    rcases hk with rfl | rfl
    · exact ⟨by omega, T9.far (by omega)⟩
    · exact ⟨H6lo.out, kg.1.2⟩
  have HT : Hid (_) := And.intro T10 (And.intro O1 lo1)
  have HIh : Hid (Iv P0 (dwriteS P0 (dnew M0) 1 b0 false)) := (Iv.new_ _).write 1 b0 false
  clear T9 o9 bk L1 O1 b10 T10 kg sk lo1 H9
  go_wp2_with fail
  go_loopw [15, 16, 17, 18, 19, 20, 21, 22, 23, 24] (fun cl ck _ _ _ _ _ _ _ _ wr => ∃ (k : Nat) (s : Sd) (es : List El), 1 ≤ k ∧ k ≤ 5 ∧ ck = .int .i64 ((k : Nat) : Int) ∧ Hid (∃ U V, Bt w1 wr ⟨d, m, g, e', r, q, 16, 9, P0, []⟩ s s [] U V ∧ Iv P0 s ∧ s.L.length ≤ 4 * k ∧ s.ms.t ≤ 6 * (k : Int) ∧ (k ≤ 4 → Dk s k) ∧ (k = 5 → von s.v = true ∧ ∀ i, i < 2 → vout s.v i = b1 i) ∧ Olist wr cl es ∧ es.length = 2 * k - 1 ∧ ∀ j, j ∈ obl cl es → w1.heap.size ≤ j ∧ j ∉ U ∧ j ∉ V)) (fun _ ck _ _ _ _ _ _ _ _ _ => 6 - (intOf ck).toNat)
  case atStart => exact ⟨1, _, _, by omega, by omega, rfl, _, _, HT.out.1, HIh.out, Nat.zero_le _, by show (0 : Int) ≤ _; omega, fun _ => (dk_start b0).2, fun e => by omega, HT.out.2.1, rfl, HT.out.2.2⟩
  case round =>
    clear HT HIh
    obtain ⟨k, s, es, hk1, hk2, rfl, hR⟩ := hrel
    obtain ⟨U, V, T, hv, hLn, htn, hDk, hfin, hO, hlen, hlo⟩ := hR.out
    by_cases hc : k ≤ 4
    · have hi1 : (k : Int) ≤ 4 := by omega
      have bwr : Below w.heap.size w wr := H1.out.trans (T.bel.mono H1.out.size)
      have swr := bwr.size
      have qF := frame_op e' r q 16 9 P0 V s (k : Int) 1 0 false a1 2 cap1 b1 0 0 wr T.rw (HA.out.2.1.below bwr) (fun y hy _ => Nat.lt_of_lt_of_le (HA.out.2.2.2 y hy) swr) hv.ss (by omega) (by omega) (by omega)
      have H2x : Hid (_) := And.intro T (And.intro hv (And.intro hLn (And.intro htn (And.intro (hDk hc) (And.intro hO (And.intro hlen (And.intro hlo (And.intro hk1 hc))))))))
      clear T hv hLn htn hDk hfin hO hlen hlo hR hk1 hk2 hc bwr swr
      go_wp2_with fail
      refine qF.mono ?_
      rintro e x3 ⟨v, rfl, g3⟩
      clear qF
      obtain ⟨bF, f, F1, y1, l1, fo⟩ := g3.out
      obtain ⟨av, cv, rfl, rb⟩ := F1.row y1
      have farb : ∀ y, av = some y → wr.heap.size ≤ y.block ∧ y.block < x3.heap.size := fun y hy => own_far F1 y hy
      have hf27 : f.1 ≤ 27 := fo_len27 (by obtain ⟨_, _, _, _, _, _, _, _, hk1, hc⟩ := H2x.out; exact ⟨hk1, hc⟩) fo
      have qS := spare_row av f.1 cv f.2 x3 rb (by omega)
      have H3x : Hid (_) := And.intro bF (And.intro rb (And.intro farb (And.intro y1 fo)))
      clear g3 bF F1 rb farb y1 fo
      go_wp2_with fail
      refine qS.mono ?_
      rintro e x4 ⟨rfl, g4⟩
      clear qS
      obtain ⟨o4, b4⟩ := g4.out
      obtain ⟨bF, rb, farb, y1, fo⟩ := H3x.out
      obtain ⟨T, hv, hLn, htn, hDk, hO, hlen, hlo, hk1, hc⟩ := H2x.out
      have rW := own_slice8 o4 (spd_byte y1)
      have b24 : Below wr.heap.size wr x4 := bF.trans (b4.mono bF.size)
      have hgl : x3.heap.size < x4.heap.size := (o4.lt _ rfl).2
      have s23 := bF.size
      have Bk := (T.below b24).tellO (x3.heap.size :: (obl u15 es ++ av.toList.map (·.block))) (fun j hj => by
        simp only [List.mem_cons, List.mem_append, List.mem_map, Option.mem_toList] at hj
        have s24 := b24.size
        rcases hj with rfl | hj | ⟨y, hy, rfl⟩
        · exact ⟨hgl, T.far s23⟩
        · exact ⟨Nat.lt_of_lt_of_le (hO.lt j hj) s24, (hlo j hj).2⟩
        · have := b4.size
          exact ⟨by have := (farb y hy).2; omega, T.far (farb y hy).1⟩)
      obtain ⟨hE, hN, hFn⟩ := dk_recv ⟨hk1, hc⟩ hv hDk fo
      have hM := Mo.of T.dv
      have hG := gw_recv (P := P0) hM f.1 f.2
      have hI := hv.recv P0_ok hM f.1 f.2
      have hby := drecv_byte P0 9 16 s (by obtain ⟨B, y⟩ := T.dv; exact y.apb) f.1 f.2
      have h27 := drecv_len27 P0 9 16 s f.1 f.2
      have qR := receive4_any d m g 16 9 P0 U s (some ⟨x3.heap.size, 0, none⟩) f.1 (f.1 + 9) f.2 x4 Bk.dv (spd_row rW) (hv.sent P0_ok) hv.od (by omega) (by omega)
      have qR2 : ∀ wz U', Bt w1 wz ⟨d, m, g, e', r, q, 16, 9, P0, KLd x4 (x3.heap.size :: (obl u15 es ++ av.toList.map (·.block)))⟩ (drecv P0 9 16 s f.1 f.2).s s [] U' V → Row8 wz av f.1 cv f.2 → Calls Tryz.prog 25 #[.pointer (some ⟨e', 0, none⟩), .slice av f.1 cv] wz fun e w' => ∃ v, e = .returned (.tuple #[v, .int .i64 (drecv P0 9 16 s f.1 f.2).e]) ∧ Hid (OutR V wz w' e' r q 16 9 P0 (drecv P0 9 16 s f.1 f.2).s (drecv P0 9 16 s f.1 f.2).f v) := fun wz U' hb hr => rreceive_any e' r q 16 9 P0 V s av f.1 cv f.2 wz hb.rw hr (hv.sent P0_ok) hv.od (by omega) (by omega) hv.ss
      generalize hRR : (drecv P0 9 16 s f.1 f.2) = R at *
      clear hRR
      rw [hE] at qR qR2
      have HQ2 : Hid (_) := qR2
      have H4x : Hid (_) := And.intro Bk (And.intro (rb.below b4) (And.intro rW (And.intro o4 (And.intro b24 (And.intro hN (And.intro hFn (And.intro hG (And.intro hI (And.intro hby h27)))))))))
      clear g4 o4 b4 bF rb farb y1 fo T hv hLn htn hDk hO hlen hlo hk1 hc rW b24 hgl s23 Bk hE hN hFn hM hG hI hby h27 qR2
      go_wp2_with fail
      refine qR.mono ?_
      rintro e x5 ⟨vx, rfl, g5⟩
      clear qR
      obtain ⟨U5, gr5, D5, fx, kx⟩ := g5.out
      obtain ⟨Bk, rb4, rW, o4, b24, hN, hFn, hG, hI, hby, h27⟩ := H4x.out
      have B5 := Bk.dev gr5 D5
      have fxo : x5.ownsRow x4.heap.size 5 1 vx R.f.1 (CB R.f.2 R.f.1) := fx
      obtain ⟨o1, c1, rfl, hL1⟩ := Lst.ofOwn fxo (by omega)
      have far1 : ∀ x, o1 = some x → x4.heap.size ≤ x ∧ x < x5.heap.size ∧ x ∉ U5 ∧ x ∉ V := fun x hx => by
        have h := hL1.out.lt hx
        exact ⟨h.1, h.2, kx x (by rw [hx]; rfl), fun hm => by have := Bk.rw.ult x hm; omega⟩
      have rb5 := rb4.blk (w' := x5) (fun y hy => (B5.keptO (k := y.block) (by simp [hy])).2)
      have qR := HQ2.out x5 U5 B5 rb5
      have H5x : Hid (_) := And.intro B5 (And.intro fx (And.intro hL1.out far1))
      clear g5 gr5 D5 kx fx Bk rb4 rW o4 b24 hN hFn hG hI hby h27 B5 fxo hL1 far1 rb5 HQ2
      go_wp2_with fail
      refine qR.mono ?_
      rintro e x6 ⟨vy, rfl, g6⟩
      clear qR
      obtain ⟨V6', gr6, R6, fy, ky⟩ := g6.out
      obtain ⟨B5, fx, L1, far1⟩ := H5x.out
      obtain ⟨Bk, rb4, rW, o4, b24, hN, hFn, hG, hI, hby, h27⟩ := H4x.out
      have B6 := B5.ref gr6 R6
      have kp6 : ∀ j, j ∈ x3.heap.size :: (obl u15 es ++ av.toList.map (·.block)) → x6.heap[j]? = x4.heap[j]? := fun j hj => (B6.keptO hj).2
      have fx6 : Fr x6 x4.heap.size (.slice (sa o1) R.f.1 c1) R.f := own_keep fx (fun j hj => gr6.off.block j (fx.lt j hj) (fun hm => by
        have h1 := fx.ge j hj
        have h2 := Bk.rw.ult j hm
        omega))
      obtain ⟨_, _, exx, rx⟩ := fx6.row hby
      simp only [Value.slice.injEq, true_and] at exx
      obtain ⟨ea, ec⟩ := exx
      obtain ⟨ay, cy, rfl, ry⟩ := fy.row hby
      rw [← ea, ← ec] at rx
      have q1 := conv_any (sa o1) R.f.1 c1 R.f.2 x6 rx
      have q2 := conv_any ay R.f.1 cy R.f.2 x6 ry
      obtain ⟨X, hX⟩ : ∃ X, BA R.f.2 R.f.1 = X := ⟨_, rfl⟩
      rw [hX] at q1 q2
      have rb6 := rb4.blk (w' := x6) (fun y hy => kp6 y.block (by simp [hy]))
      have rW6 := rW.blk (w' := x6) (fun y hy => by cases hy; exact kp6 x3.heap.size (by simp))
      have qK := kept_row x3.heap.size av f.1 cv f.2 x6 rb6 (by omega) rW6
      have L6 : Lst 0 x6 o1 R.f.1 c1 := (L1.base (Nat.zero_le _)).keepO (fun x hx => gr6.off.block x (far1 x hx).2.1 (far1 x hx).2.2.2)
      have H6x : Hid (_) := And.intro B6 (And.intro L6 (fun x hx => ⟨(far1 x hx).1, Nat.lt_of_lt_of_le (far1 x hx).2.1 gr6.off.size, (far1 x hx).2.2.1, gr6.out (far1 x hx).2.1 (far1 x hx).2.2.2⟩ : ∀ x, o1 = some x → x4.heap.size ≤ x ∧ x < x6.heap.size ∧ x ∉ U5 ∧ x ∉ V6'))
      clear g6 gr6 R6 fy ky B5 fx L1 far1 Bk rb4 rW o4 b24 hN hFn hG hI hby h27 B6 kp6 fx6 rx ry hX rb6 rW6 L6 ea ec
      go_wp2_with fail
      refine qK.mono ?_
      rintro e xk ⟨rfl, mk, hxk⟩
      clear qK q1 q2
      subst hxk
      have bk : Below x6.heap.size x6 (x6.drewN mk) := below_drewN (Below.refl _ _) mk
      generalize x6.drewN mk = x7 at *
      obtain ⟨Bk, rb4, rW, o4, b24, hN, hFn, hG, hI, hby, h27⟩ := H4x.out
      obtain ⟨T, hv, hLn, htn, hDk, hO, hlen, hlo, hk1, hc⟩ := H2x.out
      obtain ⟨B6, L6, far6⟩ := H6x.out
      have B7 := B6.below bk
      have kp7 : ∀ j, j ∈ x3.heap.size :: (obl u15 es ++ av.toList.map (·.block)) → (j < x7.heap.size ∧ j ∉ U5 ∧ j ∉ V6') ∧ x7.heap[j]? = x4.heap[j]? := fun j hj => B7.keptO hj
      have O4 : Olist x4 u15 es := hO.keep (fun j hj => b24.block j (hO.lt j hj))
      have O7 : Olist x7 u15 es := O4.keep (fun j hj => (kp7 j (by simp [hj])).2)
      have La : Lst 0 x7 (some x3.heap.size) f.1 (f.1 + 9) := (spd_lst o4 (by omega)).keepO (fun x hx => by cases hx; exact (kp7 x3.heap.size (by simp)).2)
      have Lb : Lst 0 x7 o1 R.f.1 c1 := L6.keepO (fun x hx => bk.block x (far6 x hx).2.1)
      obtain ⟨EA, hEA⟩ : ∃ e : El, e = (some x3.heap.size, f.1, f.1 + 9) := ⟨_, rfl⟩
      obtain ⟨EB, hEB⟩ : ∃ e : El, e = (o1, R.f.1, c1) := ⟨_, rfl⟩
      have b8 : Below x7.heap.size x7 (x7.alloc (.cells #[.slice (some ⟨x3.heap.size, 0, none⟩) f.1 (f.1 + 9), .slice (sa o1) R.f.1 c1] 22)) := (Below.refl _ _).alloc (Nat.le_refl _) _
      have e8 := heap_alloc_new x7 (.cells #[.slice (some ⟨x3.heap.size, 0, none⟩) f.1 (f.1 + 9), .slice (sa o1) R.f.1 c1] 22)
      have hx8 : (x7.alloc (.cells #[.slice (some ⟨x3.heap.size, 0, none⟩) f.1 (f.1 + 9), .slice (sa o1) R.f.1 c1] 22)).ownsRow 0 22 1 u15 es.length (es.map elv) := own_below O7.row b8
      have p0 := cell_of_row _ _ 0 _ _ _ e8
      have p1 := cell_of_row _ _ 1 _ _ _ e8
      have hln : es.length < 1000000 := by omega
      have s67 := bk.size
      have H7x : Hid (_) := And.intro B7 (And.intro kp7 (And.intro O7 (And.intro La (And.intro Lb (And.intro b8 s67)))))
      clear Bk rb4 rW o4 b24 hN hFn hG hI hby h27 T hv hLn htn hDk hO hlen hlo hk1 hc B6 L6 far6 B7 kp7 O4 O7 La Lb b8 e8 bk s67
      go_wp2_with (at_builtin; refine wpList_appS rfl (.tmp 131) (.tmp 134) rfl es.length x7.heap.size (es.map elv) (.slice (some ⟨x3.heap.size, 0, none⟩) f.1 (f.1 + 9)) (.slice (sa o1) R.f.1 c1) u15 rfl hx8 rfl p0 p1 rfl rfl hln ?_)
      intro v9 x9 own9 gr9 bl9
      clear p0 p1 hx8
      have HG : Hid (_) := And.intro own9 (And.intro gr9 bl9)
      clear own9 gr9 bl9
      go_wp2_with fail
      go_roundw
      case rel =>
        obtain ⟨own9, gr9, bl9⟩ := HG.out
        obtain ⟨B7, kp7, O7, La, Lb, b8, s67⟩ := H7x.out
        obtain ⟨Bk, rb4, rW, o4, b24, hN, hFn, hG, hI, hby, h27⟩ := H4x.out
        obtain ⟨bF, rb, farb, y1, fo⟩ := H3x.out
        obtain ⟨T, hv, hLn, htn, hDk, hO, hlen, hlo, hk1, hc⟩ := H2x.out
        obtain ⟨B6, L6, far6⟩ := H6x.out
        have s23 := bF.size
        have hgl : x3.heap.size < x4.heap.size := (o4.lt _ rfl).2
        have hkb : ∀ j, j ∈ obl u15 es → j < wr.heap.size := fun j hj => hO.lt j hj
        have O8 := O7.keep (fun j hj => b8.block j (O7.lt j hj))
        have La8 := La.keepO (fun x hx => b8.block x (La.lt hx).2)
        have Lb8 := Lb.keepO (fun x hx => b8.block x (Lb.lt hx).2)
        have O9 : Olist x9 v9 (es ++ [EA, EB]) := by
          refine O8.two (by rw [hEA]; exact La8) (by rw [hEB]; exact Lb8) (fun x hx hy => ?_) (fun e he x hx => ?_) (fun x hx => ?_) (by rw [hEA, hEB]; exact own9) (fun j hj hne => gr9.block j hj hne)
          · rw [hEA] at hx; rw [hEB] at hy
            have h1 := (far6 x hy).1
            have h2 : x3.heap.size = x := by simpa using hx
            omega
          · have hj := hkb x (obl_e he hx)
            refine ⟨fun h => ?_, fun h => ?_⟩
            · rw [hEA] at h
              have h2 : x3.heap.size = x := by simpa using h
              omega
            · rw [hEB] at h
              have := (far6 x h).1
              omega
          · have hj := hkb x (obl_v hx)
            refine ⟨fun h => ?_, fun h => ?_⟩
            · rw [hEA] at h
              have h2 : x3.heap.size = x := by simpa using h
              omega
            · rw [hEB] at h
              have := (far6 x h).1
              omega
        have hU8 := B7.below b8
        have hkv : ∀ j, j ∈ u15.ownBlock.toList → j ∉ U5 ∧ j ∉ V6' ∧ w1.heap.size ≤ j := fun j hj => by
          have hv : u15.ownBlock = some j := by simpa using hj
          have := kp7 j (by simp [obl_v hv])
          exact ⟨this.1.2.1, this.1.2.2, (hlo j (obl_v hv)).1⟩
        have q9 : Off u15.ownBlock.toList _ x9 := ⟨gr9.os, gr9.tape, gr9.output, gr9.size, fun j hj hne => gr9.block j hj (fun h => hne (by simp [← h]))⟩
        have B9 := hU8.others q9 (fun j hj hm => (hkv j hm).1 hj) (fun j hj hm => (hkv j hm).2.1 hj) (fun j hj => (hkv j hj).2.2) [] (fun x hx => by cases hx)
        have s17 := B7.bel.size
        have sT := T.bel.size
        have s24 := b24.size
        refine ⟨k + 1, _, es ++ [EA, EB], by omega, by omega, by go_num, U5, V6', B9, hI, by have := hG.1; omega, by have := hG.2; omega, fun h => hN (by omega), fun h => hFn (by omega), O9, by rw [List.length_append, hlen]; show 2 * k - 1 + 2 = _; omega, fun j hj => ?_⟩
        unfold obl at hj
        rcases List.mem_append.1 hj with h1 | h1
        · have hv9 : v9.ownBlock = some j := by simpa using h1
          rcases bl9 with h | h
          · have hv : u15.ownBlock = some j := h.symm.trans hv9
            have := kp7 j (by simp [obl_v hv])
            exact ⟨(hlo j (obl_v hv)).1, this.1.2⟩
          · have hj2 : x7.heap.size + 1 = j := Option.some.inj (h.symm.trans hv9)
            exact ⟨by omega, B7.far (by omega)⟩
        · obtain ⟨e, he, hx⟩ := List.mem_filterMap.1 h1
          rcases List.mem_append.1 he with he | he
          · have := kp7 j (by simp [obl_e he hx])
            exact ⟨(hlo j (obl_e he hx)).1, this.1.2⟩
          · simp at he
            rcases he with rfl | rfl
            · rw [hEA] at hx
              have hj3 : x3.heap.size = j := by simpa using hx
              have := kp7 x3.heap.size (by simp)
              rw [← hj3]
              exact ⟨by omega, this.1.2⟩
            · rw [hEB] at hx
              have h6 := far6 j hx
              exact ⟨by omega, h6.2.2⟩
      case measure => obtain ⟨_, _, _, _, _, _, _, _, hk1, hc⟩ := H2x.out; simp [intOf] <;> omega
    · have hi1 : ¬ (k : Int) ≤ 4 := by omega
      obtain rfl : k = 5 := by omega
      have hlen9 : es.length = 9 := by omega
      have qS := seeS_any d m g 16 9 P0 U s wr T.dv
      have HR : Hid (_) := And.intro T (And.intro hv (And.intro hLn (And.intro htn (And.intro (hfin rfl) (And.intro hO (And.intro hlen9 hlo))))))
      clear T hv hLn htn hDk hfin hO hlen hlo hR hk1 hk2 hc hlen9
      go_wp2_with fail
      refine qS.mono ?_
      rintro e x1 ⟨za, zc, rfl, g1⟩
      clear qS
      obtain ⟨T, hv, hLn, htn, hfin, hO, hlen9, hlo⟩ := HR.out
      have fz : x1.ownsRow wr.heap.size 5 1 (.slice za P0.o zc) P0.o (CB (vout s.v) P0.o) := g1.out.1
      obtain ⟨oa, ca_, hva, La⟩ := Lst.ofOwn fz (by show (2 : Nat) ≤ 1000000; omega)
      simp only [Value.slice.injEq, true_and] at hva
      obtain ⟨rfl, rfl⟩ := hva
      have qS := seeS_any d m g 16 9 P0 U s x1 (T.below g1.out.2.2).dv
      have H1x : Hid (_) := And.intro La.out g1.out.2.2
      clear g1 T hv hLn htn hfin hO hlen9 hlo fz La
      go_wp2_with fail
      refine qS.mono ?_
      rintro e x2 ⟨ya, yc, rfl, g2⟩
      clear qS
      have fy : x2.ownsRow x1.heap.size 5 1 (.slice ya P0.o yc) P0.o (CB (vout s.v) P0.o) := g2.out.1
      obtain ⟨ob, cb_, hvb, Lb⟩ := Lst.ofOwn fy (by show (2 : Nat) ≤ 1000000; omega)
      simp only [Value.slice.injEq, true_and] at hvb
      obtain ⟨rfl, rfl⟩ := hvb
      obtain ⟨T, hv, hLn, htn, hfin, hO, hlen9, hlo⟩ := HR.out
      obtain ⟨La, b1x⟩ := H1x.out
      have b2x := g2.out.2.2
      have b12 : Below wr.heap.size wr x2 := b1x.trans (b2x.mono b1x.size)
      have O2 : Olist x2 u15 es := hO.keep (fun j hj => b12.block j (hO.lt j hj))
      have La2 : Lst 0 x2 oa P0.o zc := (La.base (Nat.zero_le _)).keepO (fun x hx => b2x.block x (La.lt hx).2)
      have Lb2 : Lst 0 x2 ob P0.o yc := Lb.out.base (Nat.zero_le _)
      have fa : ∀ x, oa = some x → wr.heap.size ≤ x ∧ x < x1.heap.size := fun x hx => La.lt hx
      have fb : ∀ x, ob = some x → x1.heap.size ≤ x ∧ x < x2.heap.size := fun x hx => Lb.out.lt hx
      have bW : Below x2.heap.size x2 (((x2.alloc (.cells #[.int .i64 (s.st : Nat), .int .u32 (s.ss : Nat), .int .u32 (s.nm : Nat), .int .u32 (s.sn : Nat), .int .i64 (s.dc : Nat), .int .i64 s.v.lat, .bool (vreq s.v), .bool (von s.v), .slice (sa oa) P0.o zc] 57)).alloc (.cells #[.int .i64 (s.st : Nat), .int .u32 (s.ss : Nat), .int .u32 (s.nm : Nat), .int .u32 (s.sn : Nat), .int .i64 (s.dc : Nat), .int .i64 s.v.lat, .bool (vreq s.v), .bool (von s.v), .slice (sa ob) P0.o yc] 57)).alloc (.cells #[.slice (sa oa) P0.o zc, .slice (sa ob) P0.o yc] 22)) := (((Below.refl _ _).alloc (Nat.le_refl _) _).alloc (by simp) _).alloc (by simp; omega) _
      have eW := heap_alloc_new ((x2.alloc (.cells #[.int .i64 (s.st : Nat), .int .u32 (s.ss : Nat), .int .u32 (s.nm : Nat), .int .u32 (s.sn : Nat), .int .i64 (s.dc : Nat), .int .i64 s.v.lat, .bool (vreq s.v), .bool (von s.v), .slice (sa oa) P0.o zc] 57)).alloc (.cells #[.int .i64 (s.st : Nat), .int .u32 (s.ss : Nat), .int .u32 (s.nm : Nat), .int .u32 (s.sn : Nat), .int .i64 (s.dc : Nat), .int .i64 s.v.lat, .bool (vreq s.v), .bool (von s.v), .slice (sa ob) P0.o yc] 57)) (.cells #[.slice (sa oa) P0.o zc, .slice (sa ob) P0.o yc] 22)
      have nW : ((x2.alloc (.cells #[.int .i64 (s.st : Nat), .int .u32 (s.ss : Nat), .int .u32 (s.nm : Nat), .int .u32 (s.sn : Nat), .int .i64 (s.dc : Nat), .int .i64 s.v.lat, .bool (vreq s.v), .bool (von s.v), .slice (sa oa) P0.o zc] 57)).alloc (.cells #[.int .i64 (s.st : Nat), .int .u32 (s.ss : Nat), .int .u32 (s.nm : Nat), .int .u32 (s.sn : Nat), .int .i64 (s.dc : Nat), .int .i64 s.v.lat, .bool (vreq s.v), .bool (von s.v), .slice (sa ob) P0.o yc] 57)).heap.size = x2.heap.size + 1 + 1 := by simp
      rw [nW] at eW
      have hx8 : (((x2.alloc (.cells #[.int .i64 (s.st : Nat), .int .u32 (s.ss : Nat), .int .u32 (s.nm : Nat), .int .u32 (s.sn : Nat), .int .i64 (s.dc : Nat), .int .i64 s.v.lat, .bool (vreq s.v), .bool (von s.v), .slice (sa oa) P0.o zc] 57)).alloc (.cells #[.int .i64 (s.st : Nat), .int .u32 (s.ss : Nat), .int .u32 (s.nm : Nat), .int .u32 (s.sn : Nat), .int .i64 (s.dc : Nat), .int .i64 s.v.lat, .bool (vreq s.v), .bool (von s.v), .slice (sa ob) P0.o yc] 57)).alloc (.cells #[.slice (sa oa) P0.o zc, .slice (sa ob) P0.o yc] 22)).ownsRow 0 22 1 u15 es.length (es.map elv) := own_below O2.row bW
      have p0 := cell_of_row _ _ 0 _ _ _ eW
      have p1 := cell_of_row _ _ 1 _ _ _ eW
      have hln : es.length < 1000000 := by omega
      have H2x : Hid (_) := And.intro (T.below b12) (And.intro hv (And.intro hLn (And.intro htn (And.intro hfin (And.intro O2 (And.intro hlen9 (And.intro hlo (And.intro La2 (And.intro Lb2 (And.intro fa (And.intro fb (And.intro bW (And.intro (fun j hj => hO.lt j hj : ∀ j, j ∈ obl u15 es → j < wr.heap.size) (And.intro T b1x.size))))))))))))))
      clear g2 fy Lb T hv hLn htn hfin hO hlen9 hlo La b1x b2x b12 O2 La2 Lb2 fa fb bW eW nW H1x HR
      go_wp2_with (at_builtin; refine wpList_appS rfl (.tmp 140) (.tmp 145) rfl es.length (x2.heap.size + 1 + 1) (es.map elv) (.slice (sa oa) P0.o zc) (.slice (sa ob) P0.o yc) u15 rfl hx8 rfl p0 p1 rfl rfl hln ?_)
      intro v9 x9 own9 gr9 bl9
      clear p0 p1 hx8
      obtain ⟨T2, hv, hLn, htn, hfin, O2, hlen9, hlo, La2, Lb2, fa, fb, bW, hlt, T, s1x⟩ := H2x.out
      obtain ⟨EL, hEL⟩ : ∃ l : List El, l = es ++ [(oa, P0.o, zc), (ob, P0.o, yc)] := ⟨_, rfl⟩
      have hEn : EL.length = es.length + 2 := by rw [hEL]; simp
      have O3 := O2.keep (fun j hj => bW.block j (O2.lt j hj))
      have O9 : Olist x9 v9 EL := by
        rw [hEL]
        refine O3.two (La2.keepO (fun x hx => bW.block x (La2.lt hx).2)) (Lb2.keepO (fun x hx => bW.block x (Lb2.lt hx).2)) (fun x hx hy => ?_) (fun e he x hx => ?_) (fun x hx => ?_) own9 (fun j hj hne => gr9.block j hj hne)
        · have := fa x hx; have := fb x hy; omega
        · have := hlt x (obl_e he hx)
          exact ⟨fun h => by have := fa x h; omega, fun h => by have := fb x h; omega⟩
        · have := hlt x (obl_v hx)
          exact ⟨fun h => by have := fa x h; omega, fun h => by have := fb x h; omega⟩
      have hkv : ∀ j, j ∈ u15.ownBlock.toList → j ∉ U ∧ j ∉ V ∧ w1.heap.size ≤ j := fun j hj => by
        have hv : u15.ownBlock = some j := by simpa using hj
        exact ⟨(hlo j (obl_v hv)).2.1, (hlo j (obl_v hv)).2.2, (hlo j (obl_v hv)).1⟩
      have q9 : Off u15.ownBlock.toList _ x9 := ⟨gr9.os, gr9.tape, gr9.output, gr9.size, fun j hj hne => gr9.block j hj (fun h => hne (by simp [← h]))⟩
      have B9 := (T2.below bW).others q9 (fun j hj hm => (hkv j hm).1 hj) (fun j hj hm => (hkv j hm).2.1 hj) (fun j hj => (hkv j hj).2.2) [] (fun x hx => by cases hx)
      have lo9 : ∀ j, j ∈ EL.filterMap (·.1) → w1.heap.size ≤ j ∧ j ∉ U ∧ j ∉ V := by
        intro j hj
        obtain ⟨e, he, hx⟩ := List.mem_filterMap.1 hj
        rw [hEL] at he
        have sT := T.bel.size
        rcases List.mem_append.1 he with he | he
        · exact hlo j (obl_e he hx)
        · simp at he
          rcases he with rfl | rfl
          · have h1 := fa j hx
            exact ⟨by omega, T.far h1.1⟩
          · have h1 := fb j hx
            exact ⟨by omega, T.far (by omega)⟩
      obtain ⟨g9, mc, hv9⟩ : ∃ g mc, v9 = .slice (some ⟨g, 0, none⟩) (es.length + 2) mc := by
        rcases own9.2 with ⟨hn, h0⟩ | ⟨g, cap, cur, hv, _⟩
        · omega
        · exact ⟨g, cap, hv⟩
      subst hv9
      have qP := apart_els EL g9 mc x9 (by rw [hEn]; exact O9) (by omega) (by omega)
      rw [hEn] at qP
      have H9 : Hid (_) := And.intro B9 (And.intro lo9 (And.intro hv (And.intro hLn (And.intro htn hfin))))
      clear own9 gr9 bl9 T2 hv hLn htn hfin O2 hlen9 hlo La2 Lb2 fa fb bW hlt T s1x O3 O9 hkv q9 B9 lo9 hEL hEn H2x
      go_wp2_with fail
      refine qP.mono ?_
      rintro e xA ⟨rfl, kA⟩
      clear qP
      obtain ⟨B9, lo9, hv, hLn, htn, hfin⟩ := H9.out
      have qA : Off (EL.filterMap (·.1)) x9 xA := ⟨kA.os, kA.tape, kA.output, kA.size, fun j hj hn => kA.block j ⟨hj, hn⟩⟩
      have BA := B9.others qA (fun j hj hm => (lo9 j hm).2.1 hj) (fun j hj hm => (lo9 j hm).2.2 hj) (fun j hj => (lo9 j hj).1) [] (fun x hx => by cases hx)
      have qS := seeS_any d m g 16 9 P0 U s xA BA.dv
      rw [hfin.1] at qS
      have HA9 : Hid (_) := And.intro BA (And.intro hv (And.intro hLn (And.intro htn hfin.2)))
      clear B9 lo9 hv hLn htn hfin qA BA kA H9
      go_wp2_with fail
      refine qS.mono ?_
      rintro e xB ⟨na, nc, rfl, gB⟩
      clear qS
      obtain ⟨BA, hv, hLn, htn, hvo⟩ := HA9.out
      have bN : Below xB.heap.size xB (xB.alloc (.cells #[.int .i64 (s.st : Nat), .int .u32 (s.ss : Nat), .int .u32 (s.nm : Nat), .int .u32 (s.sn : Nat), .int .i64 (s.dc : Nat), .int .i64 s.v.lat, .bool (vreq s.v), .bool true, .slice na P0.o nc] 57)) := (Below.refl _ _).alloc (Nat.le_refl _) _
      have nN : (xB.alloc (.cells #[.int .i64 (s.st : Nat), .int .u32 (s.ss : Nat), .int .u32 (s.nm : Nat), .int .u32 (s.sn : Nat), .int .i64 (s.dc : Nat), .int .i64 s.v.lat, .bool (vreq s.v), .bool true, .slice na P0.o nc] 57)).heap.size = xB.heap.size + 1 := by simp
      have sB := gB.out.2.2.size
      have fN : ∀ y, na = some y → xA.heap.size ≤ y.block ∧ y.block < xB.heap.size := fun y hy => own_far gB.out.1 y hy
      have BN0 := BA.below (gB.out.2.2.trans (bN.mono sB))
      have bwN : Below w.heap.size w (xB.alloc (.cells #[.int .i64 (s.st : Nat), .int .u32 (s.ss : Nat), .int .u32 (s.nm : Nat), .int .u32 (s.sn : Nat), .int .i64 (s.dc : Nat), .int .i64 s.v.lat, .bool (vreq s.v), .bool true, .slice na P0.o nc] 57)) := H1.out.trans (BN0.bel.mono H1.out.size)
      have swN := bwN.size
      have qF := frame_op e' r q 16 9 P0 V s 4 1 0 false a1 2 cap1 b1 0 0 (xB.alloc (.cells #[.int .i64 (s.st : Nat), .int .u32 (s.ss : Nat), .int .u32 (s.nm : Nat), .int .u32 (s.sn : Nat), .int .i64 (s.dc : Nat), .int .i64 s.v.lat, .bool (vreq s.v), .bool true, .slice na P0.o nc] 57)) BN0.rw (HA.out.2.1.below bwN) (fun y hy _ => Nat.lt_of_lt_of_le (HA.out.2.2.2 y hy) swN) hv.ss (by omega) (by omega) (by omega)
      have HB9 : Hid (_) := And.intro BN0 (And.intro (gB.out.2.1.below bN) (And.intro (heap_alloc_new xB (.cells #[.int .i64 (s.st : Nat), .int .u32 (s.ss : Nat), .int .u32 (s.nm : Nat), .int .u32 (s.sn : Nat), .int .i64 (s.dc : Nat), .int .i64 s.v.lat, .bool (vreq s.v), .bool true, .slice na P0.o nc] 57)) (And.intro fN (And.intro (by omega : xB.heap.size < (xB.alloc (.cells #[.int .i64 (s.st : Nat), .int .u32 (s.ss : Nat), .int .u32 (s.nm : Nat), .int .u32 (s.sn : Nat), .int .i64 (s.dc : Nat), .int .i64 s.v.lat, .bool (vreq s.v), .bool true, .slice na P0.o nc] 57)).heap.size) (And.intro BA sB)))))
      clear bN nN sB fN BN0 bwN swN gB BA hv hLn htn hvo
      go_wp2_with fail
      generalize xB.alloc (.cells #[.int .i64 (s.st : Nat), .int .u32 (s.ss : Nat), .int .u32 (s.nm : Nat), .int .u32 (s.sn : Nat), .int .i64 (s.dc : Nat), .int .i64 s.v.lat, .bool (vreq s.v), .bool true, .slice na P0.o nc] 57) = xC at *
      refine qF.mono ?_
      rintro e xD ⟨v, rfl, gD⟩
      clear qF
      obtain ⟨bF, f, F1, y1, l1, fo⟩ := gD.out
      obtain ⟨av, cv, rfl, rb⟩ := F1.row y1
      have farb : ∀ y, av = some y → xC.heap.size ≤ y.block ∧ y.block < xD.heap.size := fun y hy => own_far F1 y hy
      obtain ⟨BN0, rN, eN, fN, hlN, BA, sB⟩ := HB9.out
      obtain ⟨_, hv, hLn, htn, hvo⟩ := HA9.out
      have BD := (BN0.below bF).tellO (xB.heap.size :: (na.toList.map (·.block) ++ av.toList.map (·.block))) (fun j hj => by
        simp only [List.mem_cons, List.mem_append, List.mem_map, Option.mem_toList] at hj
        have sF := bF.size
        rcases hj with rfl | ⟨y, hy, rfl⟩ | ⟨y, hy, rfl⟩
        · exact ⟨by omega, BA.far sB⟩
        · have h := fN y hy
          exact ⟨by omega, BA.far h.1⟩
        · have h := farb y hy
          exact ⟨h.2, BN0.far h.1⟩)
      have hby := drecv_byte P0 9 16 s (by obtain ⟨B, y⟩ := BD.dv; exact y.apb) f.1 f.2
      have qR := receive4_any d m g 16 9 P0 U s av f.1 cv f.2 xD BD.dv rb (hv.sent P0_ok) hv.od (by omega) (by omega)
      have qR2 : ∀ wz U', Bt w1 wz ⟨d, m, g, e', r, q, 16, 9, P0, KLd xD (xB.heap.size :: (na.toList.map (·.block) ++ av.toList.map (·.block)))⟩ (drecv P0 9 16 s f.1 f.2).s s [] U' V → Row8 wz av f.1 cv f.2 → Calls Tryz.prog 25 #[.pointer (some ⟨e', 0, none⟩), .slice av f.1 cv] wz fun e w' => ∃ v, e = .returned (.tuple #[v, .int .i64 (drecv P0 9 16 s f.1 f.2).e]) ∧ Hid (OutR V wz w' e' r q 16 9 P0 (drecv P0 9 16 s f.1 f.2).s (drecv P0 9 16 s f.1 f.2).f v) := fun wz U' hb hr => rreceive_any e' r q 16 9 P0 V s av f.1 cv f.2 wz hb.rw hr (hv.sent P0_ok) hv.od (by omega) (by omega) hv.ss
      generalize hRR : (drecv P0 9 16 s f.1 f.2) = R at *
      clear hRR
      have HQ2 : Hid (_) := qR2
      have HD : Hid (_) := And.intro BD (And.intro rb (And.intro (rN.below bF) (And.intro ((bF.block _ hlN).trans eN) (And.intro hvo hby))))
      clear gD bF F1 y1 l1 fo rb farb BN0 rN eN fN hlN BA sB hv hLn htn hvo BD hby qR2 HB9 HA9
      go_wp2_with fail
      refine qR.mono ?_
      rintro e xE ⟨vx, rfl, gE⟩
      clear qR
      obtain ⟨UE, grE, DE', fx, kx⟩ := gE.out
      obtain ⟨BD, rb, rN, eN, hvo, hby⟩ := HD.out
      have BE := BD.dev grE DE'
      obtain ⟨ax, cx, rfl, _⟩ := fx.row hby
      have rbE := rb.blk (w' := xE) (fun y hy => (BE.keptO (k := y.block) (by simp [hy])).2)
      have qR := HQ2.out xE UE BE rbE
      have HE : Hid (_) := And.intro BE fx
      clear gE grE DE' kx fx BD rb rN eN hvo hby BE rbE HQ2
      go_wp2_with fail
      refine qR.mono ?_
      rintro e xF ⟨vy, rfl, gF⟩
      clear qR
      obtain ⟨VF, grF, RF, fy, ky⟩ := gF.out
      obtain ⟨BE, fx⟩ := HE.out
      obtain ⟨BD, rb, rN, eN, hvo, hby⟩ := HD.out
      have BF := BE.ref grF RF
      have fxF : Fr xF xD.heap.size (.slice ax R.f.1 cx) R.f := own_keep fx (fun j hj => grF.off.block j (fx.lt j hj) (fun hm => by
        have h1 := fx.ge j hj
        have h2 := BD.rw.ult j hm
        omega))
      obtain ⟨_, _, exx, rx⟩ := fxF.row hby
      simp only [Value.slice.injEq, true_and] at exx
      obtain ⟨ea, ec⟩ := exx
      obtain ⟨ay, cy, rfl, ry⟩ := fy.row hby
      rw [← ea, ← ec] at rx
      have q1 := conv_any ax R.f.1 cx R.f.2 xF rx
      have q2 := conv_any ay R.f.1 cy R.f.2 xF ry
      obtain ⟨X, hX⟩ : ∃ X, BA R.f.2 R.f.1 = X := ⟨_, rfl⟩
      rw [hX] at q1 q2
      have kF : ∀ j, j ∈ xB.heap.size :: (na.toList.map (·.block) ++ av.toList.map (·.block)) → xF.heap[j]? = xD.heap[j]? := fun j hj => (BF.keptO hj).2
      have eF := (kF xB.heap.size (by simp)).trans eN
      have rNF := rN.blk (w' := xF) (fun y hy => kF y.block (by simp [hy]))
      have bwF : Below w.heap.size w xF := H1.out.trans (BF.bel.mono H1.out.size)
      have q3 := conv_any na P0.o nc (vout s.v) xF rNF
      have q4 := conv_any a1 2 cap1 b1 xF (HA.out.2.1.below bwF)
      obtain ⟨Y, hY⟩ : ∃ Y, BA b1 2 = Y := ⟨_, rfl⟩
      rw [hY] at q4
      rw [show BA (vout s.v) P0.o = Y by rw [← hY]; exact BA_congr _ _ 2 hvo] at q3
      have c7 : xF.cell? ⟨xB.heap.size, 7, none⟩ = some (.bool true) := cell_of_row xF _ 7 _ _ _ eF
      have c8 : xF.cell? ⟨xB.heap.size, 8, none⟩ = some (.slice na P0.o nc) := cell_of_row xF _ 8 _ _ _ eF
      have HF : Hid (_) := bwF
      clear gF grF RF fy ky BE fx BD rb rN eN hvo hby BF fxF rx ry hX kF eF rNF bwF hY HD HE ea ec
      go_wp2_with fail
      go_ret
      exact ⟨by simp, HF.out⟩
theorem deviceOwn_walk (a0 : Option Addr) (len0 cap0 : Nat) (z0 : List Int) (a1 : Option Addr) (len1 cap1 : Nat) (z1 : List Int) (w : World) (w0 : BRow .u8 w a0 len0 cap0 z0) (w1 : BRow .u8 w a1 len1 cap1 z1) :
    Calls Tryz.prog 3 #[.slice a0 len0 cap0, .slice a1 len1 cap1] w fun e w' => e = .returned (.bool true) ∧ Below w.heap.size w w' := by
  have r0 := w0.row8
  have r1 := w1.row8
  by_cases h0 : len0 = 1 ∧ len1 = 2
  · obtain ⟨rfl, rfl⟩ := h0
    exact down_go a0 cap0 _ a1 cap1 _ w r0 r1 (fun y hy => r0.ind hy (by omega)) (fun y hy => r1.ind hy (by omega))
  · have hcs : ((len0 : Int) != 1) = true ∨ ((len0 : Int) != 1) = false ∧ ((len1 : Int) != 2) = true := by
      by_cases h : len0 = 1
      · right; exact ⟨by rw [h]; rfl, by have : len1 ≠ 2 := fun e => h0 ⟨h, e⟩; simp; omega⟩
      · left; simp; omega
    clear h0 r0 r1 w0 w1
    rcases hcs with e0 | ⟨e0, e1⟩
    all_goals
      go_enter Tryz.func3, Tryz.ntmps3
      go_wp2_with fail
      refine (awake13 _).mono ?_
      rintro e w1 ⟨rfl, b1⟩
      go_wp2_with fail
      go_ret
      exact ⟨rfl, b1⟩
end Go.Proofs.YtndjepeolamedaaGreat
