/- Part 10 of the texts on which the proofs of layer 13 rest: contracts of Go functions. -/
import Derived.Deep.RegionHeld3
import Derived.Test.YtffehehghpafdaaGreatPkA01
import Derived.Test.YtffehehghpafdaaGreatPkA06
import Derived.Test.YtffehehghpafdaaGreatPkA07
import Derived.Test.YtffehehghpafdaaGreatPkA08
namespace Go.Proofs.YtffehehghpafdaaGreat
set_option maxRecDepth 100000
open Go.RowKit
theorem wf_small (x : Int) (h0 : 0 ≤ x) (h1 : x ≤ 200) : (Lit.int .i64 x).wf = true := by
  have e1 : IntKind.i64.min = -9223372036854775808 := by decide
  have e2 : IntKind.i64.max = 9223372036854775807 := by decide
  simp [Lit.wf, e1, e2]
  omega
theorem own_far {w : World} {M e n m cap : Nat} {a : Option Addr} {xs : List Value} (h : w.ownsRow M e 1 (.slice a m cap) n xs) (x : Addr) (hx : a = some x) : M ≤ x.block ∧ x.block < w.heap.size := by
  rcases h.2 with hn | ⟨g', cap', cur', he, hg', hh, _⟩
  · have := hn.1; rw [hx] at this; cases this
  · rw [hx] at he; cases he; exact ⟨hg', (Array.getElem?_eq_some_iff.1 hh).1⟩
theorem take_any (d m g n mx : Nat) (P : Pm) (U : List Nat) (s : Sd) (k c ss num fl : Nat) (a : Option Addr) (len cap : Nat) (bs : Nat → Nat) (w : World) (h : DV w d m g n mx P U s) (hr : Row8 w a len cap bs) (ha : ∀ x, a = some x → x.block < w.heap.size ∧ x.block ∉ U) (hk : 1 ≤ k ∧ k ≤ 5) (hfl : fl < 16) (hsn : s.st = 4 → s.sn + 1 < 4294967296) (hs : s.st ≠ 6) (ho : s.od < 4) (hL : s.L.length < 800000) (ht : s.ms.t < 9223372036854774000) :
    Calls Tryz.prog 113 #[.pointer (some ⟨d, 0, none⟩), .agg #[.int .i64 (k : Nat), .int .u32 (c : Nat), .int .u32 (ss : Nat), .int .u32 (num : Nat), .int .i64 (fl : Nat), .slice a len cap]] w fun e w' => ∃ v, e = .returned (.tuple #[v, .int .i64 (dtake P mx n s k ss num fl len bs).e]) ∧ Hid (Out U w w' d m g n mx P (dtake P mx n s k ss num fl len bs).s (dtake P mx n s k ss num fl len bs).f v) := by
  have : k = 1 ∨ k = 2 ∨ k = 3 ∨ k = 4 ∨ k = 5 := by omega
  rcases this with rfl | rfl | rfl | rfl | rfl
  · exact take1_any d m g n mx P U s c ss num fl a len cap bs w h hr ha hfl hsn hs ho hL ht
  · exact take2_any d m g n mx P U s c ss num fl a len cap bs w h hr ha hfl hsn hs ho hL ht
  · exact take3_any d m g n mx P U s c ss num fl a len cap bs w h hr ha hfl hsn hs ho hL ht
  · exact take4_any d m g n mx P U s c ss num fl a len cap bs w h hr ha hfl hsn hs ho hL ht
  · exact take5_any d m g n mx P U s c ss num fl a len cap bs w h hr ha hfl hsn hs ho hL ht
set_option maxHeartbeats 3200000 in
theorem hear_any (d m g n mx : Nat) (P : Pm) (U : List Nat) (s : Sd) (a : Option Addr) (len cap : Nat) (bs : Nat → Nat) (w : World) (h : DV w d m g n mx P U s) (hr : Row8 w a len cap bs) (hsn : s.st = 4 → s.sn + 1 < 4294967296) (hs : s.st ≠ 6) (ho : s.od < 4) (hL : s.L.length < 800000) (ht : s.ms.t < 9223372036854774000) :
    Calls Tryz.prog 64 #[.pointer (some ⟨d, 0, none⟩), .slice a len cap] w fun e w' => ∃ v, e = .returned (.tuple #[v, .int .i64 (dhear P mx n s len bs).e]) ∧ Hid (Out U w w' d m g n mx P (dhear P mx n s len bs).s (dhear P mx n s len bs).f v) := by
  unfold dhear
  by_cases hE : DE bs len = 0
  · have hD := decode_ok a len cap bs w hr hE
    rw [if_neg (by omega)]
    obtain ⟨_, _, _, hLW⟩ := DE_zero hE
    obtain ⟨hk1, _, _, _, hf1⟩ := LW_zero hLW
    have HH : Hid (_) := And.intro h (And.intro hsn (And.intro hs (And.intro ho (And.intro hL ht))))
    have hby : ∀ i, i < len → bs i < 256 := hr.byte
    obtain ⟨B, x⟩ := id h
    have hdl := x.dlt
    clear h hr hsn hs ho hL ht hLW
    by_cases hK : hostK (bs 0 : Int) = false
    · rw [if_pos hK]
      have hF := fun wx => fromHost_any (bs 0 : Int) wx
      rw [hK] at hF
      go_enter Tryz.func64, Tryz.ntmps64
      go_wp2_with (go_at_call 86; refine hD.mono ?_; rintro e w2 ⟨a2, c2, rfl, h2⟩)
      go_wp2_with (go_at_call 112; refine (hF _).mono ?_; rintro e w' ⟨rfl, hw⟩; have hw := hw.symm; subst hw)
      go_ret2
      exact ⟨_, rfl, Out.none_ ((Gr.below h2.out.2).trans (Gr.below ((Below.refl _ _).alloc (Nat.le_refl _) _))) (DV.below (DV.below HH.out.1 h2.out.2) ((Below.refl _ _).alloc (Nat.le_refl _) _))⟩
    · rw [if_neg hK]
      have hK' : hostK (bs 0 : Int) = true := by simpa using hK
      have hk5 : 1 ≤ bs 0 ∧ bs 0 ≤ 5 := by unfold hostK at hK'; simp at hK'; omega
      have hF := fun wx => fromHost_any (bs 0 : Int) wx
      rw [hK'] at hF
      have hT : ∀ (w2 : World) (a2 : Option Addr) (c2 : Nat), w2.ownsRow w.heap.size 5 1 (.slice a2 (len - 19) c2) (len - 19) (CB (fun i => bs (15 + i)) (len - 19)) → Below w.heap.size w w2 → ∀ wx, Below w2.heap.size w2 wx →
          Calls Tryz.prog 113 #[.pointer (some ⟨d, 0, none⟩), .agg #[.int .i64 (bs 0 : Nat), .int .u32 (w4v bs 1 : Nat), .int .u32 (w4v bs 5 : Nat), .int .u32 (w4v bs 9 : Nat), .int .i64 (bs 13 : Nat), .slice a2 (len - 19) c2]] wx fun e w' => ∃ v, e = .returned (.tuple #[v, .int .i64 (dtake P mx n s (bs 0) (w4v bs 5) (w4v bs 9) (bs 13) (len - 19) (fun i => bs (15 + i))).e]) ∧ Hid (Out U w w' d m g n mx P (dtake P mx n s (bs 0) (w4v bs 5) (w4v bs 9) (bs 13) (len - 19) (fun i => bs (15 + i))).s (dtake P mx n s (bs 0) (w4v bs 5) (w4v bs 9) (bs 13) (len - 19) (fun i => bs (15 + i))).f v) := by
        intro w2 a2 c2 ho2 hb2 wx hbx
        obtain ⟨h, hsn, hs, ho, hL, ht⟩ := HH.out
        have hr2 : Row8 w2 a2 (len - 19) c2 (fun i => bs (15 + i)) := own_slice8 ho2 (fun i hi => hby _ (by omega))
        have hbb : Below w.heap.size w wx := hb2.trans (hbx.mono hb2.size)
        refine (take_any d m g n mx P U s (bs 0) (w4v bs 1) (w4v bs 5) (w4v bs 9) (bs 13) a2 (len - 19) c2 _ wx (DV.below h hbb) (hr2.below hbx) (fun x hx => ?_) hk5 (by omega) hsn hs ho hL ht).mono ?_
        · have := own_far ho2 x hx
          exact ⟨Nat.lt_of_lt_of_le this.2 hbx.size, fun hm => by have := DV.ult h _ hm; omega⟩
        · rintro e w' ⟨v, rfl, h5⟩
          exact ⟨v, rfl, Out.pre (Gr.below hbb) h5.out⟩
      have HT : Hid (_) := hT
      have HX : Hid (_) := x
      clear hT x hby hk1 hf1 hk5 hE hK
      by_cases hC : w4v bs 1 = P.c
      · rw [if_neg (by omega)]
        generalize dtake P mx n s (bs 0) (w4v bs 5) (w4v bs 9) (bs 13) (len - 19) (fun i => bs (15 + i)) = R at *
        have hC1 : ((w4v bs 1 : Nat) : Int) = (P.c : Int) := by omega
        rw [hC1] at hD
        have HC : Hid (_) := hC
        clear hC hC1
        go_enter Tryz.func64, Tryz.ntmps64
        go_wp2_with (first | (go_at_call 86; refine hD.mono ?_; rintro e w2 ⟨a2, c2, rfl, h2⟩; have c0 := (HX.out.newd (Off.of_below h2.out.2)).cells.1; have hdl2 := (HX.out.newd (Off.of_below h2.out.2)).dlt; have hdn : ¬ d = w2.heap.size := (by omega); have hdn' : ¬ w2.heap.size = d := (by omega)) | (go_at_call 112; refine (hF _).mono ?_; rintro e w' ⟨rfl, hw⟩; have hw := hw.symm; subst hw))
        repeat (go_quiet (fail); go_wp2_with fail)
        have hQ := HT.out w2 a2 c2 h2.out.1 h2.out.2
        rw [HC.out] at hQ
        refine (hQ _ (below_drewN ((Below.refl _ _).alloc (Nat.le_refl _) _) _)).mono ?_
        rintro e w5 ⟨v, rfl, h5⟩
        clear hD hF hQ h2 c0
        go_wp2_with fail
        go_ret2
        exact ⟨v, rfl, h5⟩
      · rw [if_pos hC]
        have hC1 : (((w4v bs 1 : Nat) : Int) == (P.c : Int)) = false := by simp; omega
        have hC2 : (((w4v bs 1 : Nat) : Int) = (P.c : Int)) = False := by simp; omega
        clear hC HT
        go_enter Tryz.func64, Tryz.ntmps64
        go_wp2_with (first | (go_at_call 86; refine hD.mono ?_; rintro e w2 ⟨a2, c2, rfl, h2⟩; have c0 := (HX.out.newd (Off.of_below h2.out.2)).cells.1; have hdl2 := (HX.out.newd (Off.of_below h2.out.2)).dlt; have hdn : ¬ d = w2.heap.size := (by omega); have hdn' : ¬ w2.heap.size = d := (by omega)) | (go_at_call 112; refine (hF _).mono ?_; rintro e w' ⟨rfl, hw⟩; have hw := hw.symm; subst hw))
        repeat (go_quiet (fail); go_wp2_with fail)
        go_ret2
        have bb := below_drewN ((Below.refl w2.heap.size w2).alloc (Nat.le_refl _) (.cells #[.int .i64 (bs 0 : Nat), .int .u32 (w4v bs 1 : Nat), .int .u32 (w4v bs 5 : Nat), .int .u32 (w4v bs 9 : Nat), .int .i64 (bs 13 : Nat), .slice a2 (len - 19) c2] 114)) nq
        exact ⟨_, rfl, Out.none_ ((Gr.below h2.out.2).trans (Gr.below bb)) (DV.below (DV.below HH.out.1 h2.out.2) bb)⟩
  · have hD := decode_no a len cap bs w hr hE
    rw [if_pos hE]
    have HE : Hid (_) := And.intro h hE
    have e0 : (DE bs len == 0) = false := by simpa using hE
    have e0' : (DE bs len = 0) = False := by simpa using hE
    clear h hr hE hs ho hL ht hsn
    generalize DE bs len = E at *
    go_enter Tryz.func64, Tryz.ntmps64
    go_wp2_with (go_at_call 86; refine hD.mono ?_; rintro e w2 ⟨rfl, b2⟩)
    go_ret2
    exact ⟨_, rfl, Out.none_ ((Gr.below b2).trans (Gr.below ((Below.refl _ _).alloc (Nat.le_refl _) _))) (DV.below (DV.below HE.out.1 b2) ((Below.refl _ _).alloc (Nat.le_refl _) _))⟩
set_option maxHeartbeats 3200000 in
theorem receive4_any (d m g n mx : Nat) (P : Pm) (U : List Nat) (s : Sd) (a : Option Addr) (len cap : Nat) (bs : Nat → Nat) (w : World) (h : DV w d m g n mx P U s) (hr : Row8 w a len cap bs) (hsn : s.st = 4 → s.sn + 1 < 4294967296) (ho : s.od < 4) (hL : s.L.length < 800000) (ht : s.ms.t < 9223372036854774000) :
    Calls Tryz.prog 18 #[.pointer (some ⟨d, 0, none⟩), .slice a len cap] w fun e w' => ∃ v, e = .returned (.tuple #[v, .int .i64 (drecv P mx n s len bs).e]) ∧ Hid (Out U w w' d m g n mx P (drecv P mx n s len bs).s (drecv P mx n s len bs).f v) := by
  obtain ⟨B, x⟩ := id h
  have c11 := x.cells.2.2.2.2.2.2.2.2.2.2.2.1
  unfold drecv
  by_cases h6 : s.st = 6
  · rw [if_pos h6]
    rw [h6] at c11
    have q := silent_down d w c11
    have H : Hid (_) := h
    clear h x hr hsn ho hL ht c11
    go_enter Tryz.func18, Tryz.ntmps18
    go_wp2_with (go_at_call 56; refine q.mono ?_; rintro e w' ⟨rfl, hw⟩; have hw := hw.symm; subst hw)
    go_ret2
    exact ⟨_, rfl, Out.none_ (Gr.refl _ _) H.out⟩
  · rw [if_neg h6]
    have q := silent_up d s.st w c11 h6
    have hH := hear_any d m g n mx P U s a len cap bs w h hr hsn h6 ho hL ht
    have hre := dhear_e P mx n s len bs
    have hrl := dhear_len P mx n s len bs
    generalize dhear P mx n s len bs = R at *
    have HL : Hid (R.s.L.length < 900000) := (by show _ < _; omega)
    have HE : Hid (_) := hre
    clear h x hr hsn ho hL ht c11 h6 hrl hre
    by_cases he : R.e ≠ 0 ∧ R.e ≠ 70
    · rw [if_pos he]
      have e0 : (R.e != 0) = true := by simpa using he.1
      have e7 : (R.e != 70) = true := by simpa using he.2
      have hw : (Lit.int .i64 R.e).wf = true := wf_small R.e HE.out.1 HE.out.2
      have hN : ∀ U2 w2, DV w2 d m g n mx P U2 R.s → Calls Tryz.prog 65 #[.pointer (some ⟨d, 0, none⟩), .int .i64 R.e] w2 fun e w' => e = .returned (.tuple #[]) ∧ Hid (∃ U', Gr U2 w2 U' w' ∧ DV w' d m g n mx P U' (dnote R.s R.e)) := fun U2 w2 h2 => dvnote_any d m g n mx P U2 R.s R.e w2 h2 he.1 hw HL.out
      have HN : Hid (_) := hN
      clear hN hw he
      go_enter Tryz.func18, Tryz.ntmps18
      go_wp2_with (first | (go_at_call 56; refine q.mono ?_; rintro e w' ⟨rfl, hw⟩; have hw := hw.symm; subst hw) | (go_at_call 64; refine hH.mono ?_; rintro e w2 ⟨v, rfl, h2⟩))
      obtain ⟨U2, g2, x2, f2, k2⟩ := h2.out
      refine (HN.out U2 w2 x2).mono ?_
      rintro e w3 ⟨rfl, h3⟩
      obtain ⟨U3, g3, x3⟩ := h3.out
      have H3 : Hid (_) := Out.next g2 f2 k2 g3 x3
      clear hH q h2 g2 x2 f2 k2 h3 g3 x3 HN
      go_wp2_with fail
      go_ret2
      exact ⟨v, rfl, H3⟩
    · rw [if_neg he]
      have he' : R.e = 0 ∨ R.e = 70 := by omega
      clear he
      rcases he' with he | he
      all_goals
        rw [he] at hH ⊢
        go_enter Tryz.func18, Tryz.ntmps18
        go_wp2_with (first | (go_at_call 56; refine q.mono ?_; rintro e w' ⟨rfl, hw⟩; have hw := hw.symm; subst hw) | (go_at_call 64; refine hH.mono ?_; rintro e w2 ⟨v, rfl, h2⟩))
        go_ret2
        exact ⟨v, rfl, h2⟩
end Go.Proofs.YtffehehghpafdaaGreat
namespace Go.Proofs.YtffehehghpafdaaGreat
set_option maxRecDepth 100000
open Go.RowKit
end Go.Proofs.YtffehehghpafdaaGreat
namespace Go.Proofs.YtffehehghpafdaaGreat
set_option maxRecDepth 100000
open Go.RowKit
theorem held_call {P : Program} {md : Region.Mode} {ops : Array Oper} {Q : Exit → Act → World → Prop} {S : World → Prop} {fuel : Nat} {l : Array Bool} {a : Act} {w : World} {i : Nat} {o : Oper} (f : FuncId) (args : Array Value) (hr : Region.ready md ops l = [i]) (ho : ops[i]? = some o)
    (hw : Region.wanted o (yielded ops a.tmps) = true) (hrun : (execOp a.eval o).run P w = .ok (.enter f args) w)
    (hc : Calls P f args w fun e w'' => ∃ v, e = .returned v ∧ (S w'' ∧ wpAnyH P md ops Q S fuel (l.setIfInBounds i true) (a.put o.dst v) w'')) : wpAnyH P md ops Q S (fuel + 1) l a w :=
  wpAnyH_all hr (by simp) (fun j hj => by
    obtain rfl := List.mem_singleton.1 hj
    exact any_call f args ho hw hrun hc)
theorem held_skip {P : Program} {md : Region.Mode} {ops : Array Oper} {Q : Exit → Act → World → Prop} {S : World → Prop} {fuel : Nat} {l : Array Bool} {a : Act} {w : World} {i : Nat} {o : Oper} (w' : World) (hr : Region.ready md ops l = [i]) (ho : ops[i]? = some o)
    (hw : Region.wanted o (yielded ops a.tmps) = true) (hrun : (execOp a.eval o).run P w = .ok .skip w') (hS : S w')
    (h : wpAnyH P md ops Q S fuel (l.setIfInBounds i true) (a.put o.dst undef) w') : wpAnyH P md ops Q S (fuel + 1) l a w :=
  wpAnyH_all hr (by simp) (fun j hj => by
    obtain rfl := List.mem_singleton.1 hj
    unfold wpOp
    simp only [ho, hw, if_true]
    refine .inl ?_
    unfold Oper.wp
    rw [hrun]
    exact ⟨hS, h⟩)
theorem held_at {P : Program} {md : Region.Mode} {ops : Array Oper} {Q : Exit → Act → World → Prop} {S : World → Prop} {fuel : Nat} {l l' : Array Bool} {a a' : Act} {w : World} (ha : a = a') (hl : l = l') (h : wpAnyH P md ops Q S fuel l' a' w) : wpAnyH P md ops Q S fuel l a w := by rw [ha, hl]; exact h
end Go.Proofs.YtffehehghpafdaaGreat
namespace Go.Proofs.YtffehehghpafdaaGreat
set_option maxRecDepth 100000
open Go.RowKit
def dEnd (s : Sd) (v : Value) : Value := .agg #[.int .i64 (s.st : Nat), .int .u32 (s.ss : Nat), .int .u32 (s.nm : Nat), .int .u32 (s.sn : Nat), .int .i64 (s.dc : Nat), .int .i64 s.v.lat, .bool (vreq s.v), .bool (von s.v), v]
def zEnd : Array Value := #[.int .i64 0, .int .u32 0, .int .u32 0, .int .u32 0, .int .i64 0, .int .i64 0, .bool false, .bool false, .slice none 0 0]
theorem vout_byte {w : World} {b g : Nat} {M : List Nat} {n : Nat} {s : Vs} (h : VR w b g M n s) : ∀ i, i < n → vout s i < 256 := by
  intro i hi
  unfold vout
  by_cases ho : von s = true
  · rw [if_pos ho]
    simp only [von, Bool.and_eq_true, Bool.not_eq_true'] at ho
    obtain ⟨v, t, _, _, V⟩ := h.ex
    rcases V with ⟨e, _⟩ | ⟨_, _, hb⟩
    · rw [ho.2.2] at e; cases e
    · exact hb i hi
  · rw [if_neg ho]; show 0 < 256; omega
theorem nineRow {w : World} {b : Nat} {t : TypeId} (x0 x1 x2 x3 x4 x5 x6 x7 x8 : Value) {y0 y1 y2 y3 y4 y5 y6 y7 y8 : Value} (e : w.heap[b]? = some (.cells #[y0, y1, y2, y3, y4, y5, y6, y7, y8] t (0, 0))) :
    (((((((((w.setCell ⟨b, 0, none⟩ x0).setCell ⟨b, 1, none⟩ x1).setCell ⟨b, 2, none⟩ x2).setCell ⟨b, 3, none⟩ x3).setCell ⟨b, 4, none⟩ x4).setCell ⟨b, 5, none⟩ x5).setCell ⟨b, 6, none⟩ x6).setCell ⟨b, 7, none⟩ x7).setCell ⟨b, 8, none⟩ x8).heap[b]? = some (.cells #[x0, x1, x2, x3, x4, x5, x6, x7, x8] t (0, 0)) := by
  have e0 : (w.setCell ⟨b, 0, none⟩ x0).heap[b]? = some (.cells #[x0, y1, y2, y3, y4, y5, y6, y7, y8] t (0, 0)) := heap_setCell_same _ _ _ _ _ _ e
  have e1 : ((w.setCell ⟨b, 0, none⟩ x0).setCell ⟨b, 1, none⟩ x1).heap[b]? = some (.cells #[x0, x1, y2, y3, y4, y5, y6, y7, y8] t (0, 0)) := heap_setCell_same _ _ _ _ _ _ e0
  have e2 : (((w.setCell ⟨b, 0, none⟩ x0).setCell ⟨b, 1, none⟩ x1).setCell ⟨b, 2, none⟩ x2).heap[b]? = some (.cells #[x0, x1, x2, y3, y4, y5, y6, y7, y8] t (0, 0)) := heap_setCell_same _ _ _ _ _ _ e1
  have e3 : ((((w.setCell ⟨b, 0, none⟩ x0).setCell ⟨b, 1, none⟩ x1).setCell ⟨b, 2, none⟩ x2).setCell ⟨b, 3, none⟩ x3).heap[b]? = some (.cells #[x0, x1, x2, x3, y4, y5, y6, y7, y8] t (0, 0)) := heap_setCell_same _ _ _ _ _ _ e2
  have e4 : (((((w.setCell ⟨b, 0, none⟩ x0).setCell ⟨b, 1, none⟩ x1).setCell ⟨b, 2, none⟩ x2).setCell ⟨b, 3, none⟩ x3).setCell ⟨b, 4, none⟩ x4).heap[b]? = some (.cells #[x0, x1, x2, x3, x4, y5, y6, y7, y8] t (0, 0)) := heap_setCell_same _ _ _ _ _ _ e3
  have e5 : ((((((w.setCell ⟨b, 0, none⟩ x0).setCell ⟨b, 1, none⟩ x1).setCell ⟨b, 2, none⟩ x2).setCell ⟨b, 3, none⟩ x3).setCell ⟨b, 4, none⟩ x4).setCell ⟨b, 5, none⟩ x5).heap[b]? = some (.cells #[x0, x1, x2, x3, x4, x5, y6, y7, y8] t (0, 0)) := heap_setCell_same _ _ _ _ _ _ e4
  have e6 : (((((((w.setCell ⟨b, 0, none⟩ x0).setCell ⟨b, 1, none⟩ x1).setCell ⟨b, 2, none⟩ x2).setCell ⟨b, 3, none⟩ x3).setCell ⟨b, 4, none⟩ x4).setCell ⟨b, 5, none⟩ x5).setCell ⟨b, 6, none⟩ x6).heap[b]? = some (.cells #[x0, x1, x2, x3, x4, x5, x6, y7, y8] t (0, 0)) := heap_setCell_same _ _ _ _ _ _ e5
  have e7 : ((((((((w.setCell ⟨b, 0, none⟩ x0).setCell ⟨b, 1, none⟩ x1).setCell ⟨b, 2, none⟩ x2).setCell ⟨b, 3, none⟩ x3).setCell ⟨b, 4, none⟩ x4).setCell ⟨b, 5, none⟩ x5).setCell ⟨b, 6, none⟩ x6).setCell ⟨b, 7, none⟩ x7).heap[b]? = some (.cells #[x0, x1, x2, x3, x4, x5, x6, x7, y8] t (0, 0)) := heap_setCell_same _ _ _ _ _ _ e6
  have e8 : (((((((((w.setCell ⟨b, 0, none⟩ x0).setCell ⟨b, 1, none⟩ x1).setCell ⟨b, 2, none⟩ x2).setCell ⟨b, 3, none⟩ x3).setCell ⟨b, 4, none⟩ x4).setCell ⟨b, 5, none⟩ x5).setCell ⟨b, 6, none⟩ x6).setCell ⟨b, 7, none⟩ x7).setCell ⟨b, 8, none⟩ x8).heap[b]? = some (.cells #[x0, x1, x2, x3, x4, x5, x6, x7, x8] t (0, 0)) := heap_setCell_same _ _ _ _ _ _ e7
  exact e8
theorem nine_cell {w2 : World} {g b o : Nat} {x : Value} (h : w2.cell? ⟨b, o, none⟩ = some x) (hne : ¬ b = g) (v0 v1 v2 v3 v4 v5 v6 v7 v8 : Value) :
    (((((((((w2.setCell ⟨g, 0, none⟩ v0).setCell ⟨g, 1, none⟩ v1).setCell ⟨g, 2, none⟩ v2).setCell ⟨g, 3, none⟩ v3).setCell ⟨g, 4, none⟩ v4).setCell ⟨g, 5, none⟩ v5).setCell ⟨g, 6, none⟩ v6).setCell ⟨g, 7, none⟩ v7).setCell ⟨g, 8, none⟩ v8).cell? ⟨b, o, none⟩ = some x := by
  have hg : g ≠ b := fun e => hne e.symm
  rw [World.cell?_setCell_far _ _ _ _ hg, World.cell?_setCell_far _ _ _ _ hg, World.cell?_setCell_far _ _ _ _ hg, World.cell?_setCell_far _ _ _ _ hg, World.cell?_setCell_far _ _ _ _ hg, World.cell?_setCell_far _ _ _ _ hg, World.cell?_setCell_far _ _ _ _ hg, World.cell?_setCell_far _ _ _ _ hg, World.cell?_setCell_far _ _ _ _ hg]
  exact h
set_option maxHeartbeats 3200000 in
set_option linter.unusedSimpArgs false in
theorem see_any (d m g n mx : Nat) (P : Pm) (U : List Nat) (s : Sd) (w : World) (h : DV w d m g n mx P U s) :
    Calls Tryz.prog 21 #[.pointer (some ⟨d, 0, none⟩)] w fun e w' => ∃ v, e = .returned (dEnd s v) ∧ Hid (Fr w' w.heap.size v (P.o, vout s.v) ∧ Below w.heap.size w w') := by
  obtain ⟨B, x⟩ := h
  have hdn : ¬ d = w.heap.size := by have := x.dlt; omega
  have b0 : Below w.heap.size w (w.alloc (.cells zEnd 76)) := (Below.refl _ _).alloc (Nat.le_refl _) _
  have x0 := x.newd (Off.of_below b0)
  have c10 := x0.cells.2.2.2.2.2.2.2.2.2.2.1
  have hO := vout_any _ _ _ _ _ _ x0.val
  have hx := heap_alloc_new w (.cells zEnd 76)
  have hs0 : w.heap.size < (w.alloc (.cells zEnd 76)).heap.size := by simp
  have H0 : Hid (_) := And.intro b0 (And.intro x0 (And.intro hx hs0))
  unfold dEnd
  unfold zEnd at *
  clear b0 x0 x hx hs0
  go_enter Tryz.func21, Tryz.ntmps21
  go_wp2_with (go_at_call 70; refine hO.mono ?_; rintro e w2 ⟨v, rfl, h2⟩)
  obtain ⟨b0, x0, hx, hs0⟩ := H0.out
  have b2 := h2.out.2
  have x2 := x0.newd (Off.of_below b2)
  have e2 := (b2.block _ hs0).trans hx
  have xd := x2.newd (Off.drew [] w2)
  have q0 := wsince_any _ _ _ _ xd.dog
  have q1 := vlat_any _ _ _ _ _ _ xd.val
  have q2 := vreq_any _ _ _ _ _ _ xd.val
  obtain ⟨_, _, _, _, _, _, _, _, _, y9, y10, y11, y12, y13, y14, _⟩ := x2.cells
  have k0 := cell_of_row w2 w.heap.size 0 _ _ _ e2
  have k1 := cell_of_row w2 w.heap.size 1 _ _ _ e2
  have k2 := cell_of_row w2 w.heap.size 2 _ _ _ e2
  have k3 := cell_of_row w2 w.heap.size 3 _ _ _ e2
  have k4 := cell_of_row w2 w.heap.size 4 _ _ _ e2
  have k5 := cell_of_row w2 w.heap.size 5 _ _ _ e2
  have k6 := cell_of_row w2 w.heap.size 6 _ _ _ e2
  have k7 := cell_of_row w2 w.heap.size 7 _ _ _ e2
  have k8 := cell_of_row w2 w.heap.size 8 _ _ _ e2
  have fz := fun j => frozen_of_row w2 w.heap.size j _ _ e2
  have f0 := fz 0
  have f1 := fz 1
  have f2 := fz 2
  have f3 := fz 3
  have f4 := fz 4
  have f5 := fz 5
  have f6 := fz 6
  have f7 := fz 7
  have f8 := fz 8
  obtain ⟨va, vc, rfl, _⟩ := own_row8 h2.out.1 (vout_byte x2.val)
  have hne : ¬ d = w.heap.size := hdn
  have H2 : Hid (_) := And.intro b0 (And.intro b2 (And.intro h2.out.1 (And.intro hs0 e2)))
  clear hO h2 b0 x0 hx hs0 b2 x2 e2 xd fz H0 c10
  have HS : w2.drew.cell? ⟨d, 9, none⟩ = some (Value.pointer (some ⟨B.db, 0, none⟩)) ∧ w2.drew.cell? ⟨d, 10, none⟩ = some (Value.pointer (some ⟨B.vb, 0, none⟩)) ∧ w2.drew.cell? ⟨d, 11, none⟩ = some (Value.int .i64 (s.st : Nat)) ∧ w2.drew.cell? ⟨d, 12, none⟩ = some (Value.int .u32 (s.ss : Nat)) ∧ w2.drew.cell? ⟨d, 13, none⟩ = some (Value.int .u32 (s.nm : Nat)) ∧ w2.drew.cell? ⟨d, 14, none⟩ = some (Value.int .u32 (s.sn : Nat)) := ⟨y9, y10, y11, y12, y13, y14⟩
  clear y9 y10 y11 y12 y13 y14
  refine wp_region_held_drew (S := fun w' => w'.cell? ⟨d, 9, none⟩ = some (Value.pointer (some ⟨B.db, 0, none⟩)) ∧ w'.cell? ⟨d, 10, none⟩ = some (Value.pointer (some ⟨B.vb, 0, none⟩)) ∧ w'.cell? ⟨d, 11, none⟩ = some (Value.int .i64 (s.st : Nat)) ∧ w'.cell? ⟨d, 12, none⟩ = some (Value.int .u32 (s.ss : Nat)) ∧ w'.cell? ⟨d, 13, none⟩ = some (Value.int .u32 (s.nm : Nat)) ∧ w'.cell? ⟨d, 14, none⟩ = some (Value.int .u32 (s.sn : Nat))) (by kernel_rfl) HS (fun _ => ?_)
  refine held_at (a' := { tmps := #[Value.pointer (some ⟨d, 0, none⟩), undef, Value.pointer (some ⟨w.heap.size, 0, none⟩), Value.slice va P.o vc, Value.bool (von s.v), Value.pointer (some ⟨d, 0, none⟩), Value.bool false, undef, Value.tuple #[Value.slice va P.o vc, Value.bool (von s.v)], Value.pointer (some ⟨d, 0, none⟩), Value.pointer (some ⟨d, 0, none⟩), Value.pointer (some ⟨d, 9, none⟩), Value.pointer (some ⟨d, 10, none⟩), Value.pointer (some ⟨B.vb, 0, none⟩), Value.tuple #[Value.slice va P.o vc, Value.bool (von s.v)], Value.slice va P.o vc, Value.bool (von s.v), undef, undef, undef, undef, undef, undef, undef, undef, undef, undef, undef, undef, undef, undef, undef, undef, undef, undef, undef, undef, undef, undef, undef, undef, undef, undef, undef, undef, undef, undef, undef, undef, undef, undef, undef, undef, undef, undef, undef, undef, undef], defers := [] }) (l' := #[false, false, false, false, false, false, false, false, false, false, false, false, false, false, false, false, false, false, false, false, false, false, false, false, false, false, false, false, false, false, false, false, false, false, false, false, false, false, false, false, false, false]) (by kernel_rfl) (by kernel_rfl) ?_
  refine wpAnyH_take (i := 0) (v := Value.pointer (some ⟨d, 0, none⟩)) rfl (by kernel_rfl) (by kernel_rfl) (by kernel_rfl) (fun _ _ _ h => h) (Or.inl ⟨by kernel_rfl, fun w hSw => by go_simp⟩) (by assumption) ?_
  refine wpAnyH_take (i := 1) (v := Value.pointer (some ⟨d, 0, none⟩)) rfl (by kernel_rfl) (by kernel_rfl) (by kernel_rfl) (fun _ _ _ h => h) (Or.inl ⟨by kernel_rfl, fun w hSw => by go_simp⟩) (by assumption) ?_
  refine wpAnyH_take (i := 2) (v := Value.pointer (some ⟨d, 9, none⟩)) rfl (by kernel_rfl) (by kernel_rfl) (by kernel_rfl) (fun _ _ _ h => h) (Or.inl ⟨by kernel_rfl, fun w hSw => by go_simp⟩) (by assumption) ?_
  refine wpAnyH_take (i := 3) (v := Value.pointer (some ⟨d, 11, none⟩)) rfl (by kernel_rfl) (by kernel_rfl) (by kernel_rfl) (fun _ _ _ h => h) (Or.inl ⟨by kernel_rfl, fun w hSw => by go_simp⟩) (by assumption) ?_
  refine wpAnyH_take (i := 4) (v := Value.int .i64 (s.st : Nat)) rfl (by kernel_rfl) (by kernel_rfl) (by kernel_rfl) (fun _ _ _ h => h) (Or.inl ⟨by kernel_rfl, fun w hSw => by go_simp⟩) (by assumption) ?_
  refine wpAnyH_take (i := 5) (v := Value.pointer (some ⟨d, 0, none⟩)) rfl (by kernel_rfl) (by kernel_rfl) (by kernel_rfl) (fun _ _ _ h => h) (Or.inl ⟨by kernel_rfl, fun w hSw => by go_simp⟩) (by assumption) ?_
  refine wpAnyH_take (i := 6) (v := Value.pointer (some ⟨d, 0, none⟩)) rfl (by kernel_rfl) (by kernel_rfl) (by kernel_rfl) (fun _ _ _ h => h) (Or.inl ⟨by kernel_rfl, fun w hSw => by go_simp⟩) (by assumption) ?_
  refine wpAnyH_take (i := 7) (v := Value.pointer (some ⟨d, 9, none⟩)) rfl (by kernel_rfl) (by kernel_rfl) (by kernel_rfl) (fun _ _ _ h => h) (Or.inl ⟨by kernel_rfl, fun w hSw => by go_simp⟩) (by assumption) ?_
  refine wpAnyH_take (i := 8) (v := Value.pointer (some ⟨d, 12, none⟩)) rfl (by kernel_rfl) (by kernel_rfl) (by kernel_rfl) (fun _ _ _ h => h) (Or.inl ⟨by kernel_rfl, fun w hSw => by go_simp⟩) (by assumption) ?_
  refine wpAnyH_take (i := 9) (v := Value.int .u32 (s.ss : Nat)) rfl (by kernel_rfl) (by kernel_rfl) (by kernel_rfl) (fun _ _ _ h => h) (Or.inl ⟨by kernel_rfl, fun w hSw => by go_simp⟩) (by assumption) ?_
  refine wpAnyH_take (i := 10) (v := Value.pointer (some ⟨d, 0, none⟩)) rfl (by kernel_rfl) (by kernel_rfl) (by kernel_rfl) (fun _ _ _ h => h) (Or.inl ⟨by kernel_rfl, fun w hSw => by go_simp⟩) (by assumption) ?_
  refine wpAnyH_take (i := 11) (v := Value.pointer (some ⟨d, 0, none⟩)) rfl (by kernel_rfl) (by kernel_rfl) (by kernel_rfl) (fun _ _ _ h => h) (Or.inl ⟨by kernel_rfl, fun w hSw => by go_simp⟩) (by assumption) ?_
  refine wpAnyH_take (i := 12) (v := Value.pointer (some ⟨d, 9, none⟩)) rfl (by kernel_rfl) (by kernel_rfl) (by kernel_rfl) (fun _ _ _ h => h) (Or.inl ⟨by kernel_rfl, fun w hSw => by go_simp⟩) (by assumption) ?_
  refine wpAnyH_take (i := 13) (v := Value.pointer (some ⟨d, 13, none⟩)) rfl (by kernel_rfl) (by kernel_rfl) (by kernel_rfl) (fun _ _ _ h => h) (Or.inl ⟨by kernel_rfl, fun w hSw => by go_simp⟩) (by assumption) ?_
  refine wpAnyH_take (i := 14) (v := Value.int .u32 (s.nm : Nat)) rfl (by kernel_rfl) (by kernel_rfl) (by kernel_rfl) (fun _ _ _ h => h) (Or.inl ⟨by kernel_rfl, fun w hSw => by go_simp⟩) (by assumption) ?_
  refine wpAnyH_take (i := 15) (v := Value.pointer (some ⟨d, 0, none⟩)) rfl (by kernel_rfl) (by kernel_rfl) (by kernel_rfl) (fun _ _ _ h => h) (Or.inl ⟨by kernel_rfl, fun w hSw => by go_simp⟩) (by assumption) ?_
  refine wpAnyH_take (i := 16) (v := Value.pointer (some ⟨d, 0, none⟩)) rfl (by kernel_rfl) (by kernel_rfl) (by kernel_rfl) (fun _ _ _ h => h) (Or.inl ⟨by kernel_rfl, fun w hSw => by go_simp⟩) (by assumption) ?_
  refine wpAnyH_take (i := 17) (v := Value.pointer (some ⟨d, 9, none⟩)) rfl (by kernel_rfl) (by kernel_rfl) (by kernel_rfl) (fun _ _ _ h => h) (Or.inl ⟨by kernel_rfl, fun w hSw => by go_simp⟩) (by assumption) ?_
  refine wpAnyH_take (i := 18) (v := Value.pointer (some ⟨d, 14, none⟩)) rfl (by kernel_rfl) (by kernel_rfl) (by kernel_rfl) (fun _ _ _ h => h) (Or.inl ⟨by kernel_rfl, fun w hSw => by go_simp⟩) (by assumption) ?_
  refine wpAnyH_take (i := 19) (v := Value.int .u32 (s.sn : Nat)) rfl (by kernel_rfl) (by kernel_rfl) (by kernel_rfl) (fun _ _ _ h => h) (Or.inl ⟨by kernel_rfl, fun w hSw => by go_simp⟩) (by assumption) ?_
  refine wpAnyH_take (i := 20) (v := Value.pointer (some ⟨d, 0, none⟩)) rfl (by kernel_rfl) (by kernel_rfl) (by kernel_rfl) (fun _ _ _ h => h) (Or.inl ⟨by kernel_rfl, fun w hSw => by go_simp⟩) (by assumption) ?_
  refine wpAnyH_take (i := 21) (v := Value.pointer (some ⟨d, 0, none⟩)) rfl (by kernel_rfl) (by kernel_rfl) (by kernel_rfl) (fun _ _ _ h => h) (Or.inl ⟨by kernel_rfl, fun w hSw => by go_simp⟩) (by assumption) ?_
  refine wpAnyH_take (i := 22) (v := Value.pointer (some ⟨d, 9, none⟩)) rfl (by kernel_rfl) (by kernel_rfl) (by kernel_rfl) (fun _ _ _ h => h) (Or.inl ⟨by kernel_rfl, fun w hSw => by go_simp⟩) (by assumption) ?_
  refine wpAnyH_take (i := 23) (v := Value.pointer (some ⟨d, 9, none⟩)) rfl (by kernel_rfl) (by kernel_rfl) (by kernel_rfl) (fun _ _ _ h => h) (Or.inl ⟨by kernel_rfl, fun w hSw => by go_simp⟩) (by assumption) ?_
  refine wpAnyH_take (i := 24) (v := Value.pointer (some ⟨B.db, 0, none⟩)) rfl (by kernel_rfl) (by kernel_rfl) (by kernel_rfl) (fun _ _ _ h => h) (Or.inl ⟨by kernel_rfl, fun w hSw => by go_simp⟩) (by assumption) ?_
  refine wpAnyH_take (i := 26) (v := Value.pointer (some ⟨d, 0, none⟩)) rfl (by kernel_rfl) (by kernel_rfl) (by kernel_rfl) (fun _ _ _ h => h) (Or.inl ⟨by kernel_rfl, fun w hSw => by go_simp⟩) (by assumption) ?_
  refine wpAnyH_take (i := 27) (v := Value.pointer (some ⟨d, 0, none⟩)) rfl (by kernel_rfl) (by kernel_rfl) (by kernel_rfl) (fun _ _ _ h => h) (Or.inl ⟨by kernel_rfl, fun w hSw => by go_simp⟩) (by assumption) ?_
  refine wpAnyH_take (i := 28) (v := Value.pointer (some ⟨d, 9, none⟩)) rfl (by kernel_rfl) (by kernel_rfl) (by kernel_rfl) (fun _ _ _ h => h) (Or.inl ⟨by kernel_rfl, fun w hSw => by go_simp⟩) (by assumption) ?_
  refine wpAnyH_take (i := 29) (v := Value.pointer (some ⟨d, 10, none⟩)) rfl (by kernel_rfl) (by kernel_rfl) (by kernel_rfl) (fun _ _ _ h => h) (Or.inl ⟨by kernel_rfl, fun w hSw => by go_simp⟩) (by assumption) ?_
  refine wpAnyH_take (i := 30) (v := Value.pointer (some ⟨B.vb, 0, none⟩)) rfl (by kernel_rfl) (by kernel_rfl) (by kernel_rfl) (fun _ _ _ h => h) (Or.inl ⟨by kernel_rfl, fun w hSw => by go_simp⟩) (by assumption) ?_
  refine wpAnyH_take (i := 32) (v := Value.pointer (some ⟨d, 0, none⟩)) rfl (by kernel_rfl) (by kernel_rfl) (by kernel_rfl) (fun _ _ _ h => h) (Or.inl ⟨by kernel_rfl, fun w hSw => by go_simp⟩) (by assumption) ?_
  refine wpAnyH_take (i := 33) (v := Value.pointer (some ⟨d, 0, none⟩)) rfl (by kernel_rfl) (by kernel_rfl) (by kernel_rfl) (fun _ _ _ h => h) (Or.inl ⟨by kernel_rfl, fun w hSw => by go_simp⟩) (by assumption) ?_
  refine wpAnyH_take (i := 34) (v := Value.pointer (some ⟨d, 9, none⟩)) rfl (by kernel_rfl) (by kernel_rfl) (by kernel_rfl) (fun _ _ _ h => h) (Or.inl ⟨by kernel_rfl, fun w hSw => by go_simp⟩) (by assumption) ?_
  refine wpAnyH_take (i := 35) (v := Value.pointer (some ⟨d, 10, none⟩)) rfl (by kernel_rfl) (by kernel_rfl) (by kernel_rfl) (fun _ _ _ h => h) (Or.inl ⟨by kernel_rfl, fun w hSw => by go_simp⟩) (by assumption) ?_
  refine wpAnyH_take (i := 36) (v := Value.pointer (some ⟨B.vb, 0, none⟩)) rfl (by kernel_rfl) (by kernel_rfl) (by kernel_rfl) (fun _ _ _ h => h) (Or.inl ⟨by kernel_rfl, fun w hSw => by go_simp⟩) (by assumption) ?_
  refine wpAnyH_take (i := 38) (v := Value.bool (von s.v)) rfl (by kernel_rfl) (by kernel_rfl) (by kernel_rfl) (fun _ _ _ h => h) (Or.inl ⟨by kernel_rfl, fun w hSw => by go_simp⟩) (by assumption) ?_
  refine wpAnyH_take (i := 39) (v := Value.slice va P.o vc) rfl (by kernel_rfl) (by kernel_rfl) (by kernel_rfl) (fun _ _ _ h => h) (Or.inl ⟨by kernel_rfl, fun w hSw => by go_simp⟩) (by assumption) ?_
  refine held_at (a' := { tmps := #[Value.pointer (some ⟨d, 0, none⟩), undef, Value.pointer (some ⟨w.heap.size, 0, none⟩), Value.slice va P.o vc, Value.bool (von s.v), Value.pointer (some ⟨d, 0, none⟩), Value.bool false, undef, Value.tuple #[Value.slice va P.o vc, Value.bool (von s.v)], Value.pointer (some ⟨d, 0, none⟩), Value.pointer (some ⟨d, 0, none⟩), Value.pointer (some ⟨d, 9, none⟩), Value.pointer (some ⟨d, 10, none⟩), Value.pointer (some ⟨B.vb, 0, none⟩), Value.tuple #[Value.slice va P.o vc, Value.bool (von s.v)], Value.slice va P.o vc, Value.bool (von s.v), Value.pointer (some ⟨d, 0, none⟩), Value.pointer (some ⟨d, 0, none⟩), Value.pointer (some ⟨d, 9, none⟩), Value.pointer (some ⟨d, 11, none⟩), Value.int .i64 (s.st : Nat), Value.pointer (some ⟨d, 0, none⟩), Value.pointer (some ⟨d, 0, none⟩), Value.pointer (some ⟨d, 9, none⟩), Value.pointer (some ⟨d, 12, none⟩), Value.int .u32 (s.ss : Nat), Value.pointer (some ⟨d, 0, none⟩), Value.pointer (some ⟨d, 0, none⟩), Value.pointer (some ⟨d, 9, none⟩), Value.pointer (some ⟨d, 13, none⟩), Value.int .u32 (s.nm : Nat), Value.pointer (some ⟨d, 0, none⟩), Value.pointer (some ⟨d, 0, none⟩), Value.pointer (some ⟨d, 9, none⟩), Value.pointer (some ⟨d, 14, none⟩), Value.int .u32 (s.sn : Nat), Value.pointer (some ⟨d, 0, none⟩), Value.pointer (some ⟨d, 0, none⟩), Value.pointer (some ⟨d, 9, none⟩), Value.pointer (some ⟨d, 9, none⟩), Value.pointer (some ⟨B.db, 0, none⟩), undef, Value.pointer (some ⟨d, 0, none⟩), Value.pointer (some ⟨d, 0, none⟩), Value.pointer (some ⟨d, 9, none⟩), Value.pointer (some ⟨d, 10, none⟩), Value.pointer (some ⟨B.vb, 0, none⟩), undef, Value.pointer (some ⟨d, 0, none⟩), Value.pointer (some ⟨d, 0, none⟩), Value.pointer (some ⟨d, 9, none⟩), Value.pointer (some ⟨d, 10, none⟩), Value.pointer (some ⟨B.vb, 0, none⟩), undef, Value.bool (von s.v), Value.slice va P.o vc, undef], defers := [] }) (l' := #[true, true, true, true, true, true, true, true, true, true, true, true, true, true, true, true, true, true, true, true, true, true, true, true, true, false, true, true, true, true, true, false, true, true, true, true, true, false, true, true, false, false]) (by kernel_rfl) (by kernel_rfl) ?_
  refine held_call (i := 25) 71 #[Value.pointer (some ⟨B.db, 0, none⟩)] (by kernel_rfl) rfl (by kernel_rfl) (by go_simp) ?_
  refine (q0).mono ?_
  rintro e w' ⟨rfl, hw⟩
  have hw := hw.symm
  subst hw
  refine ⟨_, rfl, HS, ?_⟩
  refine held_at (a' := { tmps := #[Value.pointer (some ⟨d, 0, none⟩), undef, Value.pointer (some ⟨w.heap.size, 0, none⟩), Value.slice va P.o vc, Value.bool (von s.v), Value.pointer (some ⟨d, 0, none⟩), Value.bool false, undef, Value.tuple #[Value.slice va P.o vc, Value.bool (von s.v)], Value.pointer (some ⟨d, 0, none⟩), Value.pointer (some ⟨d, 0, none⟩), Value.pointer (some ⟨d, 9, none⟩), Value.pointer (some ⟨d, 10, none⟩), Value.pointer (some ⟨B.vb, 0, none⟩), Value.tuple #[Value.slice va P.o vc, Value.bool (von s.v)], Value.slice va P.o vc, Value.bool (von s.v), Value.pointer (some ⟨d, 0, none⟩), Value.pointer (some ⟨d, 0, none⟩), Value.pointer (some ⟨d, 9, none⟩), Value.pointer (some ⟨d, 11, none⟩), Value.int .i64 (s.st : Nat), Value.pointer (some ⟨d, 0, none⟩), Value.pointer (some ⟨d, 0, none⟩), Value.pointer (some ⟨d, 9, none⟩), Value.pointer (some ⟨d, 12, none⟩), Value.int .u32 (s.ss : Nat), Value.pointer (some ⟨d, 0, none⟩), Value.pointer (some ⟨d, 0, none⟩), Value.pointer (some ⟨d, 9, none⟩), Value.pointer (some ⟨d, 13, none⟩), Value.int .u32 (s.nm : Nat), Value.pointer (some ⟨d, 0, none⟩), Value.pointer (some ⟨d, 0, none⟩), Value.pointer (some ⟨d, 9, none⟩), Value.pointer (some ⟨d, 14, none⟩), Value.int .u32 (s.sn : Nat), Value.pointer (some ⟨d, 0, none⟩), Value.pointer (some ⟨d, 0, none⟩), Value.pointer (some ⟨d, 9, none⟩), Value.pointer (some ⟨d, 9, none⟩), Value.pointer (some ⟨B.db, 0, none⟩), Value.int .i64 (s.dc : Nat), Value.pointer (some ⟨d, 0, none⟩), Value.pointer (some ⟨d, 0, none⟩), Value.pointer (some ⟨d, 9, none⟩), Value.pointer (some ⟨d, 10, none⟩), Value.pointer (some ⟨B.vb, 0, none⟩), undef, Value.pointer (some ⟨d, 0, none⟩), Value.pointer (some ⟨d, 0, none⟩), Value.pointer (some ⟨d, 9, none⟩), Value.pointer (some ⟨d, 10, none⟩), Value.pointer (some ⟨B.vb, 0, none⟩), undef, Value.bool (von s.v), Value.slice va P.o vc, undef], defers := [] }) (l' := #[true, true, true, true, true, true, true, true, true, true, true, true, true, true, true, true, true, true, true, true, true, true, true, true, true, true, true, true, true, true, true, false, true, true, true, true, true, false, true, true, false, false]) (by kernel_rfl) (by kernel_rfl) ?_
  refine held_call (i := 31) 72 #[Value.pointer (some ⟨B.vb, 0, none⟩)] (by kernel_rfl) rfl (by kernel_rfl) (by go_simp) ?_
  refine (q1).mono ?_
  rintro e w' ⟨rfl, hw⟩
  have hw := hw.symm
  subst hw
  refine ⟨_, rfl, HS, ?_⟩
  refine held_at (a' := { tmps := #[Value.pointer (some ⟨d, 0, none⟩), undef, Value.pointer (some ⟨w.heap.size, 0, none⟩), Value.slice va P.o vc, Value.bool (von s.v), Value.pointer (some ⟨d, 0, none⟩), Value.bool false, undef, Value.tuple #[Value.slice va P.o vc, Value.bool (von s.v)], Value.pointer (some ⟨d, 0, none⟩), Value.pointer (some ⟨d, 0, none⟩), Value.pointer (some ⟨d, 9, none⟩), Value.pointer (some ⟨d, 10, none⟩), Value.pointer (some ⟨B.vb, 0, none⟩), Value.tuple #[Value.slice va P.o vc, Value.bool (von s.v)], Value.slice va P.o vc, Value.bool (von s.v), Value.pointer (some ⟨d, 0, none⟩), Value.pointer (some ⟨d, 0, none⟩), Value.pointer (some ⟨d, 9, none⟩), Value.pointer (some ⟨d, 11, none⟩), Value.int .i64 (s.st : Nat), Value.pointer (some ⟨d, 0, none⟩), Value.pointer (some ⟨d, 0, none⟩), Value.pointer (some ⟨d, 9, none⟩), Value.pointer (some ⟨d, 12, none⟩), Value.int .u32 (s.ss : Nat), Value.pointer (some ⟨d, 0, none⟩), Value.pointer (some ⟨d, 0, none⟩), Value.pointer (some ⟨d, 9, none⟩), Value.pointer (some ⟨d, 13, none⟩), Value.int .u32 (s.nm : Nat), Value.pointer (some ⟨d, 0, none⟩), Value.pointer (some ⟨d, 0, none⟩), Value.pointer (some ⟨d, 9, none⟩), Value.pointer (some ⟨d, 14, none⟩), Value.int .u32 (s.sn : Nat), Value.pointer (some ⟨d, 0, none⟩), Value.pointer (some ⟨d, 0, none⟩), Value.pointer (some ⟨d, 9, none⟩), Value.pointer (some ⟨d, 9, none⟩), Value.pointer (some ⟨B.db, 0, none⟩), Value.int .i64 (s.dc : Nat), Value.pointer (some ⟨d, 0, none⟩), Value.pointer (some ⟨d, 0, none⟩), Value.pointer (some ⟨d, 9, none⟩), Value.pointer (some ⟨d, 10, none⟩), Value.pointer (some ⟨B.vb, 0, none⟩), Value.int .i64 s.v.lat, Value.pointer (some ⟨d, 0, none⟩), Value.pointer (some ⟨d, 0, none⟩), Value.pointer (some ⟨d, 9, none⟩), Value.pointer (some ⟨d, 10, none⟩), Value.pointer (some ⟨B.vb, 0, none⟩), undef, Value.bool (von s.v), Value.slice va P.o vc, undef], defers := [] }) (l' := #[true, true, true, true, true, true, true, true, true, true, true, true, true, true, true, true, true, true, true, true, true, true, true, true, true, true, true, true, true, true, true, true, true, true, true, true, true, false, true, true, false, false]) (by kernel_rfl) (by kernel_rfl) ?_
  refine held_call (i := 37) 73 #[Value.pointer (some ⟨B.vb, 0, none⟩)] (by kernel_rfl) rfl (by kernel_rfl) (by go_simp) ?_
  refine (q2).mono ?_
  rintro e w' ⟨rfl, hw⟩
  have hw := hw.symm
  subst hw
  refine ⟨_, rfl, HS, ?_⟩
  refine held_at (a' := { tmps := #[Value.pointer (some ⟨d, 0, none⟩), undef, Value.pointer (some ⟨w.heap.size, 0, none⟩), Value.slice va P.o vc, Value.bool (von s.v), Value.pointer (some ⟨d, 0, none⟩), Value.bool false, undef, Value.tuple #[Value.slice va P.o vc, Value.bool (von s.v)], Value.pointer (some ⟨d, 0, none⟩), Value.pointer (some ⟨d, 0, none⟩), Value.pointer (some ⟨d, 9, none⟩), Value.pointer (some ⟨d, 10, none⟩), Value.pointer (some ⟨B.vb, 0, none⟩), Value.tuple #[Value.slice va P.o vc, Value.bool (von s.v)], Value.slice va P.o vc, Value.bool (von s.v), Value.pointer (some ⟨d, 0, none⟩), Value.pointer (some ⟨d, 0, none⟩), Value.pointer (some ⟨d, 9, none⟩), Value.pointer (some ⟨d, 11, none⟩), Value.int .i64 (s.st : Nat), Value.pointer (some ⟨d, 0, none⟩), Value.pointer (some ⟨d, 0, none⟩), Value.pointer (some ⟨d, 9, none⟩), Value.pointer (some ⟨d, 12, none⟩), Value.int .u32 (s.ss : Nat), Value.pointer (some ⟨d, 0, none⟩), Value.pointer (some ⟨d, 0, none⟩), Value.pointer (some ⟨d, 9, none⟩), Value.pointer (some ⟨d, 13, none⟩), Value.int .u32 (s.nm : Nat), Value.pointer (some ⟨d, 0, none⟩), Value.pointer (some ⟨d, 0, none⟩), Value.pointer (some ⟨d, 9, none⟩), Value.pointer (some ⟨d, 14, none⟩), Value.int .u32 (s.sn : Nat), Value.pointer (some ⟨d, 0, none⟩), Value.pointer (some ⟨d, 0, none⟩), Value.pointer (some ⟨d, 9, none⟩), Value.pointer (some ⟨d, 9, none⟩), Value.pointer (some ⟨B.db, 0, none⟩), Value.int .i64 (s.dc : Nat), Value.pointer (some ⟨d, 0, none⟩), Value.pointer (some ⟨d, 0, none⟩), Value.pointer (some ⟨d, 9, none⟩), Value.pointer (some ⟨d, 10, none⟩), Value.pointer (some ⟨B.vb, 0, none⟩), Value.int .i64 s.v.lat, Value.pointer (some ⟨d, 0, none⟩), Value.pointer (some ⟨d, 0, none⟩), Value.pointer (some ⟨d, 9, none⟩), Value.pointer (some ⟨d, 10, none⟩), Value.pointer (some ⟨B.vb, 0, none⟩), Value.bool (vreq s.v), Value.bool (von s.v), Value.slice va P.o vc, undef], defers := [] }) (l' := #[true, true, true, true, true, true, true, true, true, true, true, true, true, true, true, true, true, true, true, true, true, true, true, true, true, true, true, true, true, true, true, true, true, true, true, true, true, true, true, true, false, false]) (by kernel_rfl) (by kernel_rfl) ?_
  refine wpAnyH_take (i := 40) (v := Value.agg #[Value.int .i64 (s.st : Nat), Value.int .u32 (s.ss : Nat), Value.int .u32 (s.nm : Nat), Value.int .u32 (s.sn : Nat), Value.int .i64 (s.dc : Nat), Value.int .i64 s.v.lat, Value.bool (vreq s.v), Value.bool (von s.v), Value.slice va P.o vc]) rfl (by kernel_rfl) (by kernel_rfl) (by kernel_rfl) (fun _ _ _ h => h) (Or.inl ⟨by kernel_rfl, fun w hSw => by go_simp⟩) (by assumption) ?_
  refine held_at (a' := { tmps := #[Value.pointer (some ⟨d, 0, none⟩), undef, Value.pointer (some ⟨w.heap.size, 0, none⟩), Value.slice va P.o vc, Value.bool (von s.v), Value.pointer (some ⟨d, 0, none⟩), Value.bool false, undef, Value.tuple #[Value.slice va P.o vc, Value.bool (von s.v)], Value.pointer (some ⟨d, 0, none⟩), Value.pointer (some ⟨d, 0, none⟩), Value.pointer (some ⟨d, 9, none⟩), Value.pointer (some ⟨d, 10, none⟩), Value.pointer (some ⟨B.vb, 0, none⟩), Value.tuple #[Value.slice va P.o vc, Value.bool (von s.v)], Value.slice va P.o vc, Value.bool (von s.v), Value.pointer (some ⟨d, 0, none⟩), Value.pointer (some ⟨d, 0, none⟩), Value.pointer (some ⟨d, 9, none⟩), Value.pointer (some ⟨d, 11, none⟩), Value.int .i64 (s.st : Nat), Value.pointer (some ⟨d, 0, none⟩), Value.pointer (some ⟨d, 0, none⟩), Value.pointer (some ⟨d, 9, none⟩), Value.pointer (some ⟨d, 12, none⟩), Value.int .u32 (s.ss : Nat), Value.pointer (some ⟨d, 0, none⟩), Value.pointer (some ⟨d, 0, none⟩), Value.pointer (some ⟨d, 9, none⟩), Value.pointer (some ⟨d, 13, none⟩), Value.int .u32 (s.nm : Nat), Value.pointer (some ⟨d, 0, none⟩), Value.pointer (some ⟨d, 0, none⟩), Value.pointer (some ⟨d, 9, none⟩), Value.pointer (some ⟨d, 14, none⟩), Value.int .u32 (s.sn : Nat), Value.pointer (some ⟨d, 0, none⟩), Value.pointer (some ⟨d, 0, none⟩), Value.pointer (some ⟨d, 9, none⟩), Value.pointer (some ⟨d, 9, none⟩), Value.pointer (some ⟨B.db, 0, none⟩), Value.int .i64 (s.dc : Nat), Value.pointer (some ⟨d, 0, none⟩), Value.pointer (some ⟨d, 0, none⟩), Value.pointer (some ⟨d, 9, none⟩), Value.pointer (some ⟨d, 10, none⟩), Value.pointer (some ⟨B.vb, 0, none⟩), Value.int .i64 s.v.lat, Value.pointer (some ⟨d, 0, none⟩), Value.pointer (some ⟨d, 0, none⟩), Value.pointer (some ⟨d, 9, none⟩), Value.pointer (some ⟨d, 10, none⟩), Value.pointer (some ⟨B.vb, 0, none⟩), Value.bool (vreq s.v), Value.bool (von s.v), Value.slice va P.o vc, Value.agg #[Value.int .i64 (s.st : Nat), Value.int .u32 (s.ss : Nat), Value.int .u32 (s.nm : Nat), Value.int .u32 (s.sn : Nat), Value.int .i64 (s.dc : Nat), Value.int .i64 s.v.lat, Value.bool (vreq s.v), Value.bool (von s.v), Value.slice va P.o vc]], defers := [] }) (l' := #[true, true, true, true, true, true, true, true, true, true, true, true, true, true, true, true, true, true, true, true, true, true, true, true, true, true, true, true, true, true, true, true, true, true, true, true, true, true, true, true, true, false]) (by kernel_rfl) (by kernel_rfl) ?_
  refine held_skip (i := 41) ((((((((((w2.drew.setCell ⟨w.heap.size, 0, none⟩ (Value.int .i64 (s.st : Nat))).setCell ⟨w.heap.size, 1, none⟩ (Value.int .u32 (s.ss : Nat))).setCell ⟨w.heap.size, 2, none⟩ (Value.int .u32 (s.nm : Nat))).setCell ⟨w.heap.size, 3, none⟩ (Value.int .u32 (s.sn : Nat))).setCell ⟨w.heap.size, 4, none⟩ (Value.int .i64 (s.dc : Nat))).setCell ⟨w.heap.size, 5, none⟩ (Value.int .i64 s.v.lat)).setCell ⟨w.heap.size, 6, none⟩ (Value.bool (vreq s.v))).setCell ⟨w.heap.size, 7, none⟩ (Value.bool (von s.v))).setCell ⟨w.heap.size, 8, none⟩ (Value.slice va P.o vc))) (by kernel_rfl) rfl (by kernel_rfl) (by go_simp) ⟨nine_cell HS.1 hne _ _ _ _ _ _ _ _ _, nine_cell HS.2.1 hne _ _ _ _ _ _ _ _ _, nine_cell HS.2.2.1 hne _ _ _ _ _ _ _ _ _, nine_cell HS.2.2.2.1 hne _ _ _ _ _ _ _ _ _, nine_cell HS.2.2.2.2.1 hne _ _ _ _ _ _ _ _ _, nine_cell HS.2.2.2.2.2 hne _ _ _ _ _ _ _ _ _⟩ ?_
  refine held_at (a' := { tmps := #[Value.pointer (some ⟨d, 0, none⟩), undef, Value.pointer (some ⟨w.heap.size, 0, none⟩), Value.slice va P.o vc, Value.bool (von s.v), Value.pointer (some ⟨d, 0, none⟩), Value.bool false, undef, Value.tuple #[Value.slice va P.o vc, Value.bool (von s.v)], Value.pointer (some ⟨d, 0, none⟩), Value.pointer (some ⟨d, 0, none⟩), Value.pointer (some ⟨d, 9, none⟩), Value.pointer (some ⟨d, 10, none⟩), Value.pointer (some ⟨B.vb, 0, none⟩), Value.tuple #[Value.slice va P.o vc, Value.bool (von s.v)], Value.slice va P.o vc, Value.bool (von s.v), Value.pointer (some ⟨d, 0, none⟩), Value.pointer (some ⟨d, 0, none⟩), Value.pointer (some ⟨d, 9, none⟩), Value.pointer (some ⟨d, 11, none⟩), Value.int .i64 (s.st : Nat), Value.pointer (some ⟨d, 0, none⟩), Value.pointer (some ⟨d, 0, none⟩), Value.pointer (some ⟨d, 9, none⟩), Value.pointer (some ⟨d, 12, none⟩), Value.int .u32 (s.ss : Nat), Value.pointer (some ⟨d, 0, none⟩), Value.pointer (some ⟨d, 0, none⟩), Value.pointer (some ⟨d, 9, none⟩), Value.pointer (some ⟨d, 13, none⟩), Value.int .u32 (s.nm : Nat), Value.pointer (some ⟨d, 0, none⟩), Value.pointer (some ⟨d, 0, none⟩), Value.pointer (some ⟨d, 9, none⟩), Value.pointer (some ⟨d, 14, none⟩), Value.int .u32 (s.sn : Nat), Value.pointer (some ⟨d, 0, none⟩), Value.pointer (some ⟨d, 0, none⟩), Value.pointer (some ⟨d, 9, none⟩), Value.pointer (some ⟨d, 9, none⟩), Value.pointer (some ⟨B.db, 0, none⟩), Value.int .i64 (s.dc : Nat), Value.pointer (some ⟨d, 0, none⟩), Value.pointer (some ⟨d, 0, none⟩), Value.pointer (some ⟨d, 9, none⟩), Value.pointer (some ⟨d, 10, none⟩), Value.pointer (some ⟨B.vb, 0, none⟩), Value.int .i64 s.v.lat, Value.pointer (some ⟨d, 0, none⟩), Value.pointer (some ⟨d, 0, none⟩), Value.pointer (some ⟨d, 9, none⟩), Value.pointer (some ⟨d, 10, none⟩), Value.pointer (some ⟨B.vb, 0, none⟩), Value.bool (vreq s.v), Value.bool (von s.v), Value.slice va P.o vc, Value.agg #[Value.int .i64 (s.st : Nat), Value.int .u32 (s.ss : Nat), Value.int .u32 (s.nm : Nat), Value.int .u32 (s.sn : Nat), Value.int .i64 (s.dc : Nat), Value.int .i64 s.v.lat, Value.bool (vreq s.v), Value.bool (von s.v), Value.slice va P.o vc]], defers := [] }) (l' := #[true, true, true, true, true, true, true, true, true, true, true, true, true, true, true, true, true, true, true, true, true, true, true, true, true, true, true, true, true, true, true, true, true, true, true, true, true, true, true, true, true, true]) (by kernel_rfl) (by kernel_rfl) ?_
  refine wpAnyH_done (by kernel_rfl) ?_ _
  obtain ⟨b0, b2, hf, hs0, e2⟩ := H2.out
  have o9 := (Off.drew [w.heap.size] w2).trans (nine w.heap.size w2.drew (.int .i64 (s.st : Nat)) (.int .u32 (s.ss : Nat)) (.int .u32 (s.nm : Nat)) (.int .u32 (s.sn : Nat)) (.int .i64 (s.dc : Nat)) (.int .i64 s.v.lat) (.bool (vreq s.v)) (.bool (von s.v)) (.slice va P.o vc))
  have e9 := nineRow (.int .i64 (s.st : Nat)) (.int .u32 (s.ss : Nat)) (.int .u32 (s.nm : Nat)) (.int .u32 (s.sn : Nat)) (.int .i64 (s.dc : Nat)) (.int .i64 s.v.lat) (.bool (vreq s.v)) (.bool (von s.v)) (.slice va P.o vc) (show w2.drew.heap[w.heap.size]? = _ from e2)
  have H9 : Hid (_) := And.intro (own_base (own_offk hf o9 (fun k hk hm => by have := Fr.ge (f := (P.o, vout s.v)) hf k hk; simp at hm; omega)) b0.size) (o9.below (b0.trans (b2.mono b0.size)) (by simp) (by have := b0.size; have := b2.size; omega))
  clear o9 b0 b2 hf hs0 e2 H2 q0 q1 q2 HS k0 k1 k2 k3 k4 k5 k6 k7 k8 f0 f1 f2 f3 f4 f5 f6 f7 f8
  generalize (((((((((w2.drew.setCell ⟨w.heap.size, 0, none⟩ (Value.int .i64 (s.st : Nat))).setCell ⟨w.heap.size, 1, none⟩ (Value.int .u32 (s.ss : Nat))).setCell ⟨w.heap.size, 2, none⟩ (Value.int .u32 (s.nm : Nat))).setCell ⟨w.heap.size, 3, none⟩ (Value.int .u32 (s.sn : Nat))).setCell ⟨w.heap.size, 4, none⟩ (Value.int .i64 (s.dc : Nat))).setCell ⟨w.heap.size, 5, none⟩ (Value.int .i64 s.v.lat)).setCell ⟨w.heap.size, 6, none⟩ (Value.bool (vreq s.v))).setCell ⟨w.heap.size, 7, none⟩ (Value.bool (von s.v))).setCell ⟨w.heap.size, 8, none⟩ (Value.slice va P.o vc)) = w9 at *
  have r0 := cell_of_row w9 w.heap.size 0 _ _ _ e9
  have r1 := cell_of_row w9 w.heap.size 1 _ _ _ e9
  have r2 := cell_of_row w9 w.heap.size 2 _ _ _ e9
  have r3 := cell_of_row w9 w.heap.size 3 _ _ _ e9
  have r4 := cell_of_row w9 w.heap.size 4 _ _ _ e9
  have r5 := cell_of_row w9 w.heap.size 5 _ _ _ e9
  have r6 := cell_of_row w9 w.heap.size 6 _ _ _ e9
  have r7 := cell_of_row w9 w.heap.size 7 _ _ _ e9
  have r8 := cell_of_row w9 w.heap.size 8 _ _ _ e9
  clear e9
  go_wp2_with fail
  refine bodyPost_ret (v := .agg #[Value.int .i64 (s.st : Nat), Value.int .u32 (s.ss : Nat), Value.int .u32 (s.nm : Nat), Value.int .u32 (s.sn : Nat), Value.int .i64 (s.dc : Nat), Value.int .i64 s.v.lat, Value.bool (vreq s.v), Value.bool (von s.v), Value.slice va P.o vc]) (by simp [results, Tryz.results21, go_sem, r0, r1, r2, r3, r4, r5, r6, r7, r8]) rfl ⟨.slice va P.o vc, rfl, H9.out⟩
end Go.Proofs.YtffehehghpafdaaGreat
namespace Go.Proofs.YtffehehghpafdaaGreat
set_option maxRecDepth 100000
open Go.RowKit
end Go.Proofs.YtffehehghpafdaaGreat
namespace Go.Proofs.YtffehehghpafdaaGreat
set_option maxRecDepth 100000
open Go.RowKit
theorem opS_off {mx n : Nat} {s : Ms} (hl : 0 ≤ s.l) (h : opE mx n s = 0) : (opS mx n s).off = false := by
  unfold opE at h
  unfold opS
  by_cases h1 : mx = 0 ∨ n < 10
  · rw [if_pos h1] at h; omega
  · rw [if_neg h1] at h ⊢
    by_cases h2 : s.off = true
    · rw [if_pos h2] at h; omega
    · rw [if_neg h2] at h ⊢
      rcases sq_all n (mend s.bs) s (fun x hx => (mend_in s.bs n (by omega) x hx).1) (by simpa using h2) hl with ⟨_, e, _⟩ | ⟨e, _⟩
      · rw [e]
      · omega
end Go.Proofs.YtffehehghpafdaaGreat
namespace Go.Proofs.YtffehehghpafdaaGreat
set_option maxRecDepth 100000
open Go.RowKit
def dnew (ms : Ms) : Sd := ⟨ms, [], 0, vnew, 1, 0, 0, 0, 0, fun _ => 0, false⟩
theorem DX.made {w2 w3 w4 : World} {m g n mx c : Nat} {P : Pm} {ms : Ms} {db vb vg ga b : Nat} (hP : Pok P) (hn : 10 ≤ n) (hx0 : mx ≠ 0) (hx : mx < 4294967296) (hM : MR w2 m g n ms) (hC : CS w2 c m mx ms.bs false) (hoff : ms.off = false)
    (hm : m < c) (hg : g < c) (q : Off [] w2 w3) (hD : DG w3 (b + 2) [b, b + 1, b + 2] []) (hb : w2.heap.size ≤ b) (hN : NL w3 w4 P db vb vg ga) :
    DX (w4.alloc (.cells (DVC P m mx (.pointer (some ⟨c, 0, none⟩)) (b + 2) db vb (dnew ms) (.slice (some ⟨ga, 0, none⟩) P.i P.i)) 131)) w4.heap.size m g n mx P [w4.heap.size, m, g, c, db, vb, vg, ga, b, b + 1, b + 2] (dnew ms)
      ⟨c, b + 2, db, vb, vg, [], [b, b + 1, b + 2], .pointer (some ⟨c, 0, none⟩), .slice (some ⟨ga, 0, none⟩) P.i P.i, fun k => if k = w4.heap.size then 0 else if k = m ∨ k = g then 1 else if k = c then 2 else if k = db then 3 else if k = vb ∨ k = vg then 4 else if k = ga then 6 else 5⟩ True := by
  obtain ⟨q1, q2, q3, q4, q5, q6, q7, q8, q9, q10⟩ := hN
  have hc := hC.lt
  have s2 := q.size
  have s3 := q4.size
  have d3 : b + 2 < w3.heap.size := hD.ult _ (by simp)
  have o34 : Off [] w3 w4 := Off.of_below q4
  have oA : Off [] w4 (w4.alloc (.cells (DVC P m mx (.pointer (some ⟨c, 0, none⟩)) (b + 2) db vb (dnew ms) (.slice (some ⟨ga, 0, none⟩) P.i P.i)) 131)) := Off.alloc _ _ _
  have oB := (q.trans o34).trans oA
  refine ⟨heap_alloc_new w4 _, hM.off oB (by simp) (by simp), fun _ => ⟨rfl, hC.off oB (by simp), hoff⟩, q1.off oA (by simp), q2.off oA (by simp) (by simp) (by simp), hD.off (o34.trans oA) (by simp), own_offk (own_base q3 (Nat.zero_le _)) oA (by simp), fun i _ => (by show 0 < 256; omega), ?_, ?_, ?_, ?_, ?_, ?_, ?_, ?_, fun k hk => (by simp at hk), ?_, ?_, hP, hn, hx0, hx⟩
  · intro k hk
    rw [World.size_alloc]
    simp at hk
    omega
  · exact ⟨if_pos rfl, by simp⟩
  · exact ⟨by dsimp only; rw [if_neg (by omega), if_pos (.inl rfl)], by simp⟩
  · exact ⟨by dsimp only; rw [if_neg (by omega), if_pos (.inr rfl)], by simp⟩
  · exact ⟨by dsimp only; rw [if_neg (by omega), if_neg (by omega), if_pos rfl], by simp⟩
  · exact ⟨by dsimp only; rw [if_neg (by omega), if_neg (by omega), if_neg (by omega), if_pos rfl], by simp⟩
  · exact ⟨by dsimp only; rw [if_neg (by omega), if_neg (by omega), if_neg (by omega), if_neg (by omega), if_pos (.inl rfl)], by simp⟩
  · exact ⟨by dsimp only; rw [if_neg (by omega), if_neg (by omega), if_neg (by omega), if_neg (by omega), if_pos (.inr rfl)], by simp⟩
  · intro k hk
    refine ⟨?_, by simp at hk ⊢; omega⟩
    dsimp only
    simp at hk
    rw [if_neg (by omega), if_neg (by omega), if_neg (by omega), if_neg (by omega), if_neg (by omega), if_neg (by omega)]
  · intro k hk
    cases hk
    exact ⟨by dsimp only; rw [if_neg (by omega), if_neg (by omega), if_neg (by omega), if_neg (by omega), if_neg (by omega), if_pos rfl], by simp⟩
set_option maxHeartbeats 1600000 in
theorem newD_bad (c : Nat) (o i t : Int) (n : Nat) (p : Option Addr) (x : Int) (w : World) (hE : ¬ okP c o i t n) :
    Calls Tryz.prog 32 #[.agg #[.int .u32 c, .int .i64 o, .int .i64 i, .int .i64 t, .int .u32 n], .pointer p, .int .u32 x] w fun e w' => e = .returned (.tuple #[.pointer none, .int .i64 90]) ∧ Below w.heap.size w w' := by
  have hb : Below w.heap.size w (w.alloc (.cells #[.int .u32 c, .int .i64 o, .int .i64 i, .int .i64 t, .int .u32 n] 49)) := (Below.refl _ _).alloc (Nat.le_refl _) _
  have hC := check_any c o i t n (w.alloc (.cells #[.int .u32 c, .int .i64 o, .int .i64 i, .int .i64 t, .int .u32 n] 49)) 90 (if_neg hE)
  clear hE
  go_enter Tryz.func32, Tryz.ntmps32
  go_wp2_with (go_at_call 78; refine hC.mono ?_; rintro e w2 ⟨rfl, b2⟩)
  go_ret2
  exact ⟨rfl, hb.trans (b2.mono hb.size)⟩
set_option maxHeartbeats 1600000 in
theorem newD_nil (c : Nat) (o i t : Int) (n : Nat) (x : Int) (w : World) (hE : okP c o i t n) :
    Calls Tryz.prog 32 #[.agg #[.int .u32 c, .int .i64 o, .int .i64 i, .int .i64 t, .int .u32 n], .pointer none, .int .u32 x] w fun e w' => e = .returned (.tuple #[.pointer none, .int .i64 1]) ∧ Below w.heap.size w w' := by
  have hb : Below w.heap.size w (w.alloc (.cells #[.int .u32 c, .int .i64 o, .int .i64 i, .int .i64 t, .int .u32 n] 49)) := (Below.refl _ _).alloc (Nat.le_refl _) _
  have hC := check_any c o i t n (w.alloc (.cells #[.int .u32 c, .int .i64 o, .int .i64 i, .int .i64 t, .int .u32 n] 49)) 0 (if_pos hE)
  have hO := fun wx => open_nil x wx
  clear hE
  go_enter Tryz.func32, Tryz.ntmps32
  go_wp2_with (first | (go_at_call 78; refine hC.mono ?_; rintro e w2 ⟨rfl, b2⟩) | (go_at_call 79; refine (hO _).mono ?_; rintro e w' ⟨rfl, hw⟩; have hw := hw.symm; subst hw))
  go_ret2
  exact ⟨rfl, hb.trans (b2.mono hb.size)⟩
set_option maxHeartbeats 3200000 in
theorem newD_any (m g n mx : Nat) (P : Pm) (hP : Pok P) (ms : Ms) (w : World) (hM : MR w m g n ms) (hx : mx < 4294967296) (ht : ms.t < 9223372036854774000) :
    Calls Tryz.prog 32 #[.agg #[.int .u32 (P.c : Nat), .int .i64 (P.o : Nat), .int .i64 (P.i : Nat), .int .i64 (P.t : Nat), .int .u32 (P.n : Nat)], .pointer (some ⟨m, 0, none⟩), .int .u32 (mx : Nat)] w fun e w' => ∃ p, e = .returned (.tuple #[.pointer p, .int .i64 (opE mx n ms)]) ∧ Hid (Off [m, g] w w' ∧ MR w' m g n (opS mx n ms) ∧
      (opE mx n ms = 0 → ∃ d U, p = some ⟨d, 0, none⟩ ∧ DV w' d m g n mx P U (dnew (opS mx n ms)) ∧ (∀ k, k ∈ U → k = m ∨ k = g ∨ w.heap.size ≤ k)) ∧ (¬ opE mx n ms = 0 → p = none)) := by
  have hb : Below w.heap.size w (w.alloc (.cells #[.int .u32 (P.c : Nat), .int .i64 (P.o : Nat), .int .i64 (P.i : Nat), .int .i64 (P.t : Nat), .int .u32 (P.n : Nat)] 49)) := (Below.refl _ _).alloc (Nat.le_refl _) _
  have hs : (w.alloc (.cells #[.int .u32 (P.c : Nat), .int .i64 (P.o : Nat), .int .i64 (P.i : Nat), .int .i64 (P.t : Nat), .int .u32 (P.n : Nat)] 49)).heap.size = w.heap.size + 1 := by simp
  have hx0 := heap_alloc_new w (.cells #[.int .u32 (P.c : Nat), .int .i64 (P.o : Nat), .int .i64 (P.i : Nat), .int .i64 (P.t : Nat), .int .u32 (P.n : Nat)] 49)
  have hC := check_any P.c P.o P.i P.t P.n (w.alloc (.cells #[.int .u32 (P.c : Nat), .int .i64 (P.o : Nat), .int .i64 (P.i : Nat), .int .i64 (P.t : Nat), .int .u32 (P.n : Nat)] 49)) 0 (if_pos hP.ok)
  obtain ⟨E, hE⟩ : ∃ x, opE mx n ms = x := ⟨_, rfl⟩
  rw [hE]
  have hO : ∀ wx, MR wx m g n ms → Calls Tryz.prog 79 #[.pointer (some ⟨m, 0, none⟩), .int .u32 (mx : Nat)] wx fun e w' => ∃ p, e = .returned (.tuple #[.pointer p, .int .i64 E]) ∧ Hid (Off [m, g] wx w' ∧ MR w' m g n (opS mx n ms) ∧
      (E = 0 → ∃ c, p = some ⟨c, 0, none⟩ ∧ wx.heap.size ≤ c ∧ CS w' c m mx (opS mx n ms).bs false) ∧ (¬ E = 0 → p = none)) := by
    intro wx hMx
    subst hE
    exact popen m g n mx ms wx hMx ht
  have HO : Hid (_) := hO
  have HH : Hid (_) := And.intro hb (And.intro hs (And.intro hx0 (And.intro hM (And.intro hE (And.intro hP hx)))))
  clear hO hb hs hx0 hM hE hP hx ht
  go_enter Tryz.func32, Tryz.ntmps32
  go_wp2_with (first | (go_at_call 78; refine hC.mono ?_; rintro e w1 ⟨rfl, b1⟩))
  obtain ⟨hb, hs, hx0, hM, _⟩ := HH.out
  have bb := hb.trans (b1.mono hb.size)
  refine (HO.out w1 (hM.off (Off.of_below (l := []) bb) (by simp) (by simp))).mono ?_
  rintro e w2 ⟨p, rfl, h2⟩
  have e2 : w2.heap[w.heap.size]? = some (.cells #[.int .u32 (P.c : Nat), .int .i64 (P.o : Nat), .int .i64 (P.i : Nat), .int .i64 (P.t : Nat), .int .u32 (P.n : Nat)] 49 (0, 0)) := by
    have l1 := hM.lt
    have l2 := hM.lg
    have l3 := b1.size
    rw [h2.out.1.block w.heap.size (by omega) (by simp; omega), b1.block _ (by omega)]
    exact hx0
  have H2 : Hid (_) := And.intro bb (And.intro h2.out (And.intro HH.out (by have := b1.size; omega : w.heap.size < w1.heap.size)))
  by_cases he : E = 0
  · have e0 : (E != 0) = false := by simp [he]
    obtain ⟨c, rfl, hc, hC2⟩ := h2.out.2.2.1 he
    have HE : Hid (_) := And.intro he (And.intro hc hC2)
    have HS : w2.drew.cell? ⟨w.heap.size, 0, none⟩ = some (.int .u32 (P.c : Nat)) ∧ w2.drew.cell? ⟨w.heap.size, 1, none⟩ = some (.int .i64 (P.o : Nat)) ∧ w2.drew.cell? ⟨w.heap.size, 2, none⟩ = some (.int .i64 (P.i : Nat)) ∧ w2.drew.cell? ⟨w.heap.size, 3, none⟩ = some (.int .i64 (P.t : Nat)) ∧ w2.drew.cell? ⟨w.heap.size, 4, none⟩ = some (.int .u32 (P.n : Nat)) :=
      ⟨cell_of_row w2 _ 0 _ _ _ e2, cell_of_row w2 _ 1 _ _ _ e2, cell_of_row w2 _ 2 _ _ _ e2, cell_of_row w2 _ 3 _ _ _ e2, cell_of_row w2 _ 4 _ _ _ e2⟩
    have hN := dnew_any w2.drew
    clear hC b1 hb hs hx0 hM bb h2 e2 he hc hC2 HO
    go_wp2_with fail
    go_region_held3 (fun w' => w'.cell? ⟨w.heap.size, 0, none⟩ = some (.int .u32 (P.c : Nat)) ∧ w'.cell? ⟨w.heap.size, 1, none⟩ = some (.int .i64 (P.o : Nat)) ∧ w'.cell? ⟨w.heap.size, 2, none⟩ = some (.int .i64 (P.i : Nat)) ∧ w'.cell? ⟨w.heap.size, 3, none⟩ = some (.int .i64 (P.t : Nat)) ∧ w'.cell? ⟨w.heap.size, 4, none⟩ = some (.int .u32 (P.n : Nat))) (first | with_reducible assumption | exact ⟨(belA _).cell hwl |>.trans HU.1, (belA _).cell hwl |>.trans HU.2.1, (belA _).cell hwl |>.trans HU.2.2.1, (belA _).cell hwl |>.trans HU.2.2.2.1, (belA _).cell hwl |>.trans HU.2.2.2.2⟩) (first
      | (go_at_call 80; refine hN.mono ?_; rintro e w3 ⟨rfl, h3⟩; have hL := newLife_any P H2.out.2.2.1.2.2.2.2.2.1 w3; have hl3 : w.heap.size < w2.drew.heap.size := (Nat.lt_of_lt_of_le H2.out.2.2.2 H2.out.2.1.1.size); have HT : w3.cell? ⟨w.heap.size, 0, none⟩ = some (.int .u32 (P.c : Nat)) ∧ w3.cell? ⟨w.heap.size, 1, none⟩ = some (.int .i64 (P.o : Nat)) ∧ w3.cell? ⟨w.heap.size, 2, none⟩ = some (.int .i64 (P.i : Nat)) ∧ w3.cell? ⟨w.heap.size, 3, none⟩ = some (.int .i64 (P.t : Nat)) ∧ w3.cell? ⟨w.heap.size, 4, none⟩ = some (.int .u32 (P.n : Nat)) := ⟨(h3.out.1.cell hl3).trans HS.1, (h3.out.1.cell hl3).trans HS.2.1, (h3.out.1.cell hl3).trans HS.2.2.1, (h3.out.1.cell hl3).trans HS.2.2.2.1, (h3.out.1.cell hl3).trans HS.2.2.2.2⟩; have hl4 : w.heap.size < w3.heap.size := (Nat.lt_of_lt_of_le hl3 h3.out.1.size); clear hN)
      | (go_at_call 81; refine hL.mono ?_; rintro e w4 ⟨db, vb, vg, ga, rfl, h4⟩; have HU : w4.cell? ⟨w.heap.size, 0, none⟩ = some (.int .u32 (P.c : Nat)) ∧ w4.cell? ⟨w.heap.size, 1, none⟩ = some (.int .i64 (P.o : Nat)) ∧ w4.cell? ⟨w.heap.size, 2, none⟩ = some (.int .i64 (P.i : Nat)) ∧ w4.cell? ⟨w.heap.size, 3, none⟩ = some (.int .i64 (P.t : Nat)) ∧ w4.cell? ⟨w.heap.size, 4, none⟩ = some (.int .u32 (P.n : Nat)) := ⟨(h4.out.bel.cell hl4).trans HT.1, (h4.out.bel.cell hl4).trans HT.2.1, (h4.out.bel.cell hl4).trans HT.2.2.1, (h4.out.bel.cell hl4).trans HT.2.2.2.1, (h4.out.bel.cell hl4).trans HT.2.2.2.2⟩; have hwl : w.heap.size < w4.heap.size := (Nat.lt_of_lt_of_le hl4 h4.out.bel.size); have belA : ∀ o, Below w4.heap.size w4 (w4.alloc o) := (fun o => (Below.refl _ _).alloc (Nat.le_refl _) o); clear hL))
    all_goals
      go_wp2_with fail
      go_ret2
      obtain ⟨bb, ⟨o2, m2, _, _⟩, ⟨_, hs, _, hM, hE, hP, hx⟩, hw1⟩ := H2.out
      obtain ⟨he, hc, hC2⟩ := HE.out
      subst he
      obtain ⟨mx0, n10, _⟩ := opened m g n mx ms w hM hE
      have l1 := hM.lt
      have l2 := hM.lg
      have hoff := opS_off hM.l0 hE
      have q3 : Off [] w2.drew w3 := Off.of_below h3.out.1
      have X := DX.made hP n10 mx0 hx (m2.off (Off.drew [] w2) (by simp) (by simp)) (hC2.off (Off.drew [] w2) (by simp)) hoff (by omega) (by omega) q3 h3.out.2.2 (Nat.le_refl _) h4.out
      have hcl := hC2.lt
      have s3 := q3.size
      have s2 : w2.drew.heap.size = w2.heap.size := rfl
      have k1 := h4.out.h1
      have k2 := h4.out.h2
      have k3 := h4.out.h3
      have k4 := h4.out.h4
      have k6 := h4.out.h6
      have k7 := o2.size
      refine ⟨_, rfl, ?_, ?_, fun _ => ⟨w4.heap.size, _, rfl, ⟨_, { X with cel := fun _ => X.cel trivial }⟩, ?_⟩, fun h => absurd rfl h⟩
      · exact ((Off.of_below bb).trans o2).trans ((((Off.drew _ w2).trans (q3.more (by simp))).trans (Off.of_below h4.out.bel)).trans (Off.alloc _ _ _))
      · exact X.mem
      · intro k hk
        simp at hk
        omega
  · have e0 : (E != 0) = true := by simp [he]
    obtain rfl := h2.out.2.2.2 he
    have HE : Hid (_) := he
    clear he hC b1 hb hs hx0 hM bb h2 e2
    go_wp2_with fail
    go_ret2
    obtain ⟨bb, ⟨o2, m2, _, _⟩, hh, _⟩ := H2.out
    exact ⟨none, rfl, (Off.of_below bb).trans o2, m2, fun h => absurd h HE.out, fun _ => rfl⟩
end Go.Proofs.YtffehehghpafdaaGreat
namespace Go.Proofs.YtffehehghpafdaaGreat
set_option maxRecDepth 100000
open Go.RowKit
set_option maxRecDepth 100000 in
set_option maxHeartbeats 2000000 in
theorem refLawful_1 (c s n : Nat) (f : Int) (a : Option Addr) (len cap : Nat) (w : World) :
    Calls Tryz.prog 117 #[.agg #[.int .i64 1, .int .u32 c, .int .u32 s, .int .u32 n, .int .i64 f, .slice a len cap]] w fun e w' => e = .returned (.int .i64 (LW 1 c s n f len len)) ∧ Below w.heap.size w w' := by
  have hH := refHost_any 1
  have hD := refDevice_any 1
  have hM := refData_any 1 len
  unfold LW
  rw [show hostK 1 = true from rfl] at hH ⊢
  rw [show devK 1 = false from rfl] at hD ⊢
  rw [show hNum 1 = false from rfl, show mFl 1 = 0 from rfl]
  generalize mData 1 len = D at *
  have hb : Below w.heap.size w (w.alloc (.cells #[.int .i64 1, .int .u32 c, .int .u32 s, .int .u32 n, .int .i64 f, .slice a len cap] 114)) := (Below.refl _ _).alloc (Nat.le_refl _) _
  rw [if_neg (by simp)]
  by_cases hc : (c : Int) = 0
  · rw [if_pos hc, hc]
    rw [hc] at hb
    go_enter Tryz.func117, Tryz.ntmps117
    go_wp2_with (first | (go_at_call 67; refine (hH _).mono ?_; rintro e w' ⟨rfl, rfl⟩) | (go_at_call 178; refine (hD _).mono ?_; rintro e w' ⟨rfl, rfl⟩) | (go_at_call 179; refine (hM _).mono ?_; rintro e w' ⟨rfl, rfl⟩))
    go_ret
    exact ⟨rfl, hb⟩
  · rw [if_neg hc]
    have qc : ((c : Int) == 0) = false := by simpa using hc
    cases D
    · rw [if_pos (Or.inr rfl)]
      go_enter Tryz.func117, Tryz.ntmps117
      go_wp2_with (first | (go_at_call 67; refine (hH _).mono ?_; rintro e w' ⟨rfl, rfl⟩) | (go_at_call 178; refine (hD _).mono ?_; rintro e w' ⟨rfl, rfl⟩) | (go_at_call 179; refine (hM _).mono ?_; rintro e w' ⟨rfl, rfl⟩))
      go_ret
      exact ⟨rfl, hb⟩
    · rw [if_neg (by simp)]
      by_cases hs : (s : Int) = 0
      · rw [if_neg (by simp [mSess, hs]), hs]
        rw [hs] at hb
        by_cases hn : (n : Int) = 0
        · rw [if_neg (by simp [hn]), hn]
          rw [hn] at hb
          by_cases hf : f < 0
          · rw [if_pos (Or.inl hf)]
            have qf : decide (f < 0) = true := decide_eq_true hf
            go_enter Tryz.func117, Tryz.ntmps117
            go_wp2_with (first | (go_at_call 67; refine (hH _).mono ?_; rintro e w' ⟨rfl, rfl⟩) | (go_at_call 178; refine (hD _).mono ?_; rintro e w' ⟨rfl, rfl⟩) | (go_at_call 179; refine (hM _).mono ?_; rintro e w' ⟨rfl, rfl⟩))
            go_ret
            exact ⟨rfl, hb⟩
          · have qf : decide (f < 0) = false := decide_eq_false hf
            by_cases h15 : 15 < f
            · rw [if_pos (by omega)]
              have q15 : decide (15 < f) = true := decide_eq_true h15
              go_enter Tryz.func117, Tryz.ntmps117
              go_wp2_with (first | (go_at_call 67; refine (hH _).mono ?_; rintro e w' ⟨rfl, rfl⟩) | (go_at_call 178; refine (hD _).mono ?_; rintro e w' ⟨rfl, rfl⟩) | (go_at_call 179; refine (hM _).mono ?_; rintro e w' ⟨rfl, rfl⟩))
              go_ret
              exact ⟨rfl, hb⟩
            · have q15 : decide (15 < f) = false := decide_eq_false h15
              by_cases h0 : f = 0
              · rw [if_neg (by omega)]
                subst h0
                go_enter Tryz.func117, Tryz.ntmps117
                go_wp2_with (first | (go_at_call 67; refine (hH _).mono ?_; rintro e w' ⟨rfl, rfl⟩) | (go_at_call 178; refine (hD _).mono ?_; rintro e w' ⟨rfl, rfl⟩) | (go_at_call 179; refine (hM _).mono ?_; rintro e w' ⟨rfl, rfl⟩))
                go_ret
                exact ⟨rfl, hb⟩
              · rw [if_pos (by omega)]
                have q0 : (f == 0) = false := by simpa using h0
                go_enter Tryz.func117, Tryz.ntmps117
                go_wp2_with (first | (go_at_call 67; refine (hH _).mono ?_; rintro e w' ⟨rfl, rfl⟩) | (go_at_call 178; refine (hD _).mono ?_; rintro e w' ⟨rfl, rfl⟩) | (go_at_call 179; refine (hM _).mono ?_; rintro e w' ⟨rfl, rfl⟩))
                go_ret
                exact ⟨rfl, hb⟩
        · rw [if_pos (by simpa using hn)]
          have qn : ((n : Int) == 0) = false := by simpa using hn
          have qn2 : ((n : Int) != 0) = true := by simpa using hn
          go_enter Tryz.func117, Tryz.ntmps117
          go_wp2_with (first | (go_at_call 67; refine (hH _).mono ?_; rintro e w' ⟨rfl, rfl⟩) | (go_at_call 178; refine (hD _).mono ?_; rintro e w' ⟨rfl, rfl⟩) | (go_at_call 179; refine (hM _).mono ?_; rintro e w' ⟨rfl, rfl⟩))
          go_ret
          exact ⟨rfl, hb⟩
      · rw [if_pos (by simpa [mSess] using hs)]
        have qs : ((s : Int) == 0) = false := by simpa using hs
        go_enter Tryz.func117, Tryz.ntmps117
        go_wp2_with (first | (go_at_call 67; refine (hH _).mono ?_; rintro e w' ⟨rfl, rfl⟩) | (go_at_call 178; refine (hD _).mono ?_; rintro e w' ⟨rfl, rfl⟩) | (go_at_call 179; refine (hM _).mono ?_; rintro e w' ⟨rfl, rfl⟩))
        go_ret
        exact ⟨rfl, hb⟩
set_option maxRecDepth 100000 in
set_option maxHeartbeats 2000000 in
theorem refLawful_22 (c s n : Nat) (f : Int) (a : Option Addr) (len cap : Nat) (w : World) :
    Calls Tryz.prog 117 #[.agg #[.int .i64 22, .int .u32 c, .int .u32 s, .int .u32 n, .int .i64 f, .slice a len cap]] w fun e w' => e = .returned (.int .i64 (LW 22 c s n f len len)) ∧ Below w.heap.size w w' := by
  have hH := refHost_any 22
  have hD := refDevice_any 22
  have hM := refData_any 22 len
  unfold LW
  rw [show hostK 22 = false from rfl] at hH ⊢
  rw [show devK 22 = true from rfl] at hD ⊢
  rw [show hNum 22 = false from rfl, show mFl 22 = 0 from rfl]
  generalize mData 22 len = D at *
  have hb : Below w.heap.size w (w.alloc (.cells #[.int .i64 22, .int .u32 c, .int .u32 s, .int .u32 n, .int .i64 f, .slice a len cap] 114)) := (Below.refl _ _).alloc (Nat.le_refl _) _
  rw [if_neg (by simp)]
  by_cases hc : (c : Int) = 0
  · rw [if_pos hc, hc]
    rw [hc] at hb
    go_enter Tryz.func117, Tryz.ntmps117
    go_wp2_with (first | (go_at_call 67; refine (hH _).mono ?_; rintro e w' ⟨rfl, rfl⟩) | (go_at_call 178; refine (hD _).mono ?_; rintro e w' ⟨rfl, rfl⟩) | (go_at_call 179; refine (hM _).mono ?_; rintro e w' ⟨rfl, rfl⟩))
    go_ret
    exact ⟨rfl, hb⟩
  · rw [if_neg hc]
    have qc : ((c : Int) == 0) = false := by simpa using hc
    cases D
    · rw [if_pos (Or.inr rfl)]
      go_enter Tryz.func117, Tryz.ntmps117
      go_wp2_with (first | (go_at_call 67; refine (hH _).mono ?_; rintro e w' ⟨rfl, rfl⟩) | (go_at_call 178; refine (hD _).mono ?_; rintro e w' ⟨rfl, rfl⟩) | (go_at_call 179; refine (hM _).mono ?_; rintro e w' ⟨rfl, rfl⟩))
      go_ret
      exact ⟨rfl, hb⟩
    · rw [if_neg (by simp)]
      rw [if_neg (by simp [mSess])]
      by_cases hn : (n : Int) = 0
      · rw [if_neg (by simp [hn]), hn]
        rw [hn] at hb
        by_cases hf : f < 0
        · rw [if_pos (Or.inl hf)]
          have qf : decide (f < 0) = true := decide_eq_true hf
          go_enter Tryz.func117, Tryz.ntmps117
          go_wp2_with (first | (go_at_call 67; refine (hH _).mono ?_; rintro e w' ⟨rfl, rfl⟩) | (go_at_call 178; refine (hD _).mono ?_; rintro e w' ⟨rfl, rfl⟩) | (go_at_call 179; refine (hM _).mono ?_; rintro e w' ⟨rfl, rfl⟩))
          go_ret
          exact ⟨rfl, hb⟩
        · have qf : decide (f < 0) = false := decide_eq_false hf
          by_cases h15 : 15 < f
          · rw [if_pos (by omega)]
            have q15 : decide (15 < f) = true := decide_eq_true h15
            go_enter Tryz.func117, Tryz.ntmps117
            go_wp2_with (first | (go_at_call 67; refine (hH _).mono ?_; rintro e w' ⟨rfl, rfl⟩) | (go_at_call 178; refine (hD _).mono ?_; rintro e w' ⟨rfl, rfl⟩) | (go_at_call 179; refine (hM _).mono ?_; rintro e w' ⟨rfl, rfl⟩))
            go_ret
            exact ⟨rfl, hb⟩
          · have q15 : decide (15 < f) = false := decide_eq_false h15
            by_cases h0 : f = 0
            · rw [if_neg (by omega)]
              subst h0
              go_enter Tryz.func117, Tryz.ntmps117
              go_wp2_with (first | (go_at_call 67; refine (hH _).mono ?_; rintro e w' ⟨rfl, rfl⟩) | (go_at_call 178; refine (hD _).mono ?_; rintro e w' ⟨rfl, rfl⟩) | (go_at_call 179; refine (hM _).mono ?_; rintro e w' ⟨rfl, rfl⟩))
              go_ret
              exact ⟨rfl, hb⟩
            · rw [if_pos (by omega)]
              have q0 : (f == 0) = false := by simpa using h0
              go_enter Tryz.func117, Tryz.ntmps117
              go_wp2_with (first | (go_at_call 67; refine (hH _).mono ?_; rintro e w' ⟨rfl, rfl⟩) | (go_at_call 178; refine (hD _).mono ?_; rintro e w' ⟨rfl, rfl⟩) | (go_at_call 179; refine (hM _).mono ?_; rintro e w' ⟨rfl, rfl⟩))
              go_ret
              exact ⟨rfl, hb⟩
      · rw [if_pos (by simpa using hn)]
        have qn : ((n : Int) == 0) = false := by simpa using hn
        have qn2 : ((n : Int) != 0) = true := by simpa using hn
        go_enter Tryz.func117, Tryz.ntmps117
        go_wp2_with (first | (go_at_call 67; refine (hH _).mono ?_; rintro e w' ⟨rfl, rfl⟩) | (go_at_call 178; refine (hD _).mono ?_; rintro e w' ⟨rfl, rfl⟩) | (go_at_call 179; refine (hM _).mono ?_; rintro e w' ⟨rfl, rfl⟩))
        go_ret
        exact ⟨rfl, hb⟩
set_option maxRecDepth 100000 in
set_option maxHeartbeats 2000000 in
theorem refLawful_4 (c s n : Nat) (f : Int) (a : Option Addr) (len cap : Nat) (w : World) :
    Calls Tryz.prog 117 #[.agg #[.int .i64 4, .int .u32 c, .int .u32 s, .int .u32 n, .int .i64 f, .slice a len cap]] w fun e w' => e = .returned (.int .i64 (LW 4 c s n f len len)) ∧ Below w.heap.size w w' := by
  have hH := refHost_any 4
  have hD := refDevice_any 4
  have hM := refData_any 4 len
  unfold LW
  rw [show hostK 4 = true from rfl] at hH ⊢
  rw [show devK 4 = false from rfl] at hD ⊢
  rw [show hNum 4 = true from rfl, show mFl 4 = 15 from rfl]
  have hS : mSess 4 s = decide ((s : Int) ≠ 0) := rfl
  generalize mData 4 len = D at *
  have hb : Below w.heap.size w (w.alloc (.cells #[.int .i64 4, .int .u32 c, .int .u32 s, .int .u32 n, .int .i64 f, .slice a len cap] 114)) := (Below.refl _ _).alloc (Nat.le_refl _) _
  rw [if_neg (by simp)]
  by_cases hc : (c : Int) = 0
  · rw [if_pos hc, hc]
    rw [hc] at hb
    go_enter Tryz.func117, Tryz.ntmps117
    go_wp2_with (first | (go_at_call 67; refine (hH _).mono ?_; rintro e w' ⟨rfl, rfl⟩) | (go_at_call 178; refine (hD _).mono ?_; rintro e w' ⟨rfl, rfl⟩) | (go_at_call 179; refine (hM _).mono ?_; rintro e w' ⟨rfl, rfl⟩))
    go_ret
    exact ⟨rfl, hb⟩
  · rw [if_neg hc]
    have qc : ((c : Int) == 0) = false := by simpa using hc
    cases D
    · rw [if_pos (Or.inr rfl)]
      go_enter Tryz.func117, Tryz.ntmps117
      go_wp2_with (first | (go_at_call 67; refine (hH _).mono ?_; rintro e w' ⟨rfl, rfl⟩) | (go_at_call 178; refine (hD _).mono ?_; rintro e w' ⟨rfl, rfl⟩) | (go_at_call 179; refine (hM _).mono ?_; rintro e w' ⟨rfl, rfl⟩))
      go_ret
      exact ⟨rfl, hb⟩
    · rw [if_neg (by simp)]
      by_cases hs : (s : Int) = 0
      · rw [if_pos (by rw [hS]; simpa using hs), hs]
        rw [hs] at hb
        go_enter Tryz.func117, Tryz.ntmps117
        go_wp2_with (first | (go_at_call 67; refine (hH _).mono ?_; rintro e w' ⟨rfl, rfl⟩) | (go_at_call 178; refine (hD _).mono ?_; rintro e w' ⟨rfl, rfl⟩) | (go_at_call 179; refine (hM _).mono ?_; rintro e w' ⟨rfl, rfl⟩))
        go_ret
        exact ⟨rfl, hb⟩
      · rw [if_neg (by rw [hS]; simpa using hs)]
        have qs : ((s : Int) == 0) = false := by simpa using hs
        by_cases hn : (n : Int) = 0
        · rw [if_pos (by simp [hn]), hn]
          rw [hn] at hb
          go_enter Tryz.func117, Tryz.ntmps117
          go_wp2_with (first | (go_at_call 67; refine (hH _).mono ?_; rintro e w' ⟨rfl, rfl⟩) | (go_at_call 178; refine (hD _).mono ?_; rintro e w' ⟨rfl, rfl⟩) | (go_at_call 179; refine (hM _).mono ?_; rintro e w' ⟨rfl, rfl⟩))
          go_ret
          exact ⟨rfl, hb⟩
        · rw [if_neg (by simpa using hn)]
          have qn : ((n : Int) == 0) = false := by simpa using hn
          have qn2 : ((n : Int) != 0) = true := by simpa using hn
          by_cases hf : f < 0
          · rw [if_pos (Or.inl hf)]
            have qf : decide (f < 0) = true := decide_eq_true hf
            go_enter Tryz.func117, Tryz.ntmps117
            go_wp2_with (first | (go_at_call 67; refine (hH _).mono ?_; rintro e w' ⟨rfl, rfl⟩) | (go_at_call 178; refine (hD _).mono ?_; rintro e w' ⟨rfl, rfl⟩) | (go_at_call 179; refine (hM _).mono ?_; rintro e w' ⟨rfl, rfl⟩))
            go_ret
            exact ⟨rfl, hb⟩
          · have qf : decide (f < 0) = false := decide_eq_false hf
            by_cases h15 : 15 < f
            · rw [if_pos (by omega)]
              have q15 : decide (15 < f) = true := decide_eq_true h15
              go_enter Tryz.func117, Tryz.ntmps117
              go_wp2_with (first | (go_at_call 67; refine (hH _).mono ?_; rintro e w' ⟨rfl, rfl⟩) | (go_at_call 178; refine (hD _).mono ?_; rintro e w' ⟨rfl, rfl⟩) | (go_at_call 179; refine (hM _).mono ?_; rintro e w' ⟨rfl, rfl⟩))
              go_ret
              exact ⟨rfl, hb⟩
            · have q15 : decide (15 < f) = false := decide_eq_false h15
              rw [if_neg (by omega)]
              go_enter Tryz.func117, Tryz.ntmps117
              go_wp2_with (first | (go_at_call 67; refine (hH _).mono ?_; rintro e w' ⟨rfl, rfl⟩) | (go_at_call 178; refine (hD _).mono ?_; rintro e w' ⟨rfl, rfl⟩) | (go_at_call 179; refine (hM _).mono ?_; rintro e w' ⟨rfl, rfl⟩))
              go_ret
              exact ⟨rfl, hb⟩
set_option maxRecDepth 100000 in
set_option maxHeartbeats 2000000 in
theorem refLawful_20 (c s n : Nat) (f : Int) (a : Option Addr) (len cap : Nat) (w : World) :
    Calls Tryz.prog 117 #[.agg #[.int .i64 20, .int .u32 c, .int .u32 s, .int .u32 n, .int .i64 f, .slice a len cap]] w fun e w' => e = .returned (.int .i64 (LW 20 c s n f len len)) ∧ Below w.heap.size w w' := by
  have hH := refHost_any 20
  have hD := refDevice_any 20
  have hM := refData_any 20 len
  unfold LW
  rw [show hostK 20 = false from rfl] at hH ⊢
  rw [show devK 20 = true from rfl] at hD ⊢
  rw [show hNum 20 = true from rfl, show mFl 20 = 15 from rfl]
  have hS : mSess 20 s = decide ((s : Int) ≠ 0) := rfl
  generalize mData 20 len = D at *
  have hb : Below w.heap.size w (w.alloc (.cells #[.int .i64 20, .int .u32 c, .int .u32 s, .int .u32 n, .int .i64 f, .slice a len cap] 114)) := (Below.refl _ _).alloc (Nat.le_refl _) _
  rw [if_neg (by simp)]
  by_cases hc : (c : Int) = 0
  · rw [if_pos hc, hc]
    rw [hc] at hb
    go_enter Tryz.func117, Tryz.ntmps117
    go_wp2_with (first | (go_at_call 67; refine (hH _).mono ?_; rintro e w' ⟨rfl, rfl⟩) | (go_at_call 178; refine (hD _).mono ?_; rintro e w' ⟨rfl, rfl⟩) | (go_at_call 179; refine (hM _).mono ?_; rintro e w' ⟨rfl, rfl⟩))
    go_ret
    exact ⟨rfl, hb⟩
  · rw [if_neg hc]
    have qc : ((c : Int) == 0) = false := by simpa using hc
    cases D
    · rw [if_pos (Or.inr rfl)]
      go_enter Tryz.func117, Tryz.ntmps117
      go_wp2_with (first | (go_at_call 67; refine (hH _).mono ?_; rintro e w' ⟨rfl, rfl⟩) | (go_at_call 178; refine (hD _).mono ?_; rintro e w' ⟨rfl, rfl⟩) | (go_at_call 179; refine (hM _).mono ?_; rintro e w' ⟨rfl, rfl⟩))
      go_ret
      exact ⟨rfl, hb⟩
    · rw [if_neg (by simp)]
      by_cases hs : (s : Int) = 0
      · rw [if_pos (by rw [hS]; simpa using hs), hs]
        rw [hs] at hb
        go_enter Tryz.func117, Tryz.ntmps117
        go_wp2_with (first | (go_at_call 67; refine (hH _).mono ?_; rintro e w' ⟨rfl, rfl⟩) | (go_at_call 178; refine (hD _).mono ?_; rintro e w' ⟨rfl, rfl⟩) | (go_at_call 179; refine (hM _).mono ?_; rintro e w' ⟨rfl, rfl⟩))
        go_ret
        exact ⟨rfl, hb⟩
      · rw [if_neg (by rw [hS]; simpa using hs)]
        have qs : ((s : Int) == 0) = false := by simpa using hs
        by_cases hn : (n : Int) = 0
        · rw [if_pos (by simp [hn]), hn]
          rw [hn] at hb
          go_enter Tryz.func117, Tryz.ntmps117
          go_wp2_with (first | (go_at_call 67; refine (hH _).mono ?_; rintro e w' ⟨rfl, rfl⟩) | (go_at_call 178; refine (hD _).mono ?_; rintro e w' ⟨rfl, rfl⟩) | (go_at_call 179; refine (hM _).mono ?_; rintro e w' ⟨rfl, rfl⟩))
          go_ret
          exact ⟨rfl, hb⟩
        · rw [if_neg (by simpa using hn)]
          have qn : ((n : Int) == 0) = false := by simpa using hn
          have qn2 : ((n : Int) != 0) = true := by simpa using hn
          by_cases hf : f < 0
          · rw [if_pos (Or.inl hf)]
            have qf : decide (f < 0) = true := decide_eq_true hf
            go_enter Tryz.func117, Tryz.ntmps117
            go_wp2_with (first | (go_at_call 67; refine (hH _).mono ?_; rintro e w' ⟨rfl, rfl⟩) | (go_at_call 178; refine (hD _).mono ?_; rintro e w' ⟨rfl, rfl⟩) | (go_at_call 179; refine (hM _).mono ?_; rintro e w' ⟨rfl, rfl⟩))
            go_ret
            exact ⟨rfl, hb⟩
          · have qf : decide (f < 0) = false := decide_eq_false hf
            by_cases h15 : 15 < f
            · rw [if_pos (by omega)]
              have q15 : decide (15 < f) = true := decide_eq_true h15
              go_enter Tryz.func117, Tryz.ntmps117
              go_wp2_with (first | (go_at_call 67; refine (hH _).mono ?_; rintro e w' ⟨rfl, rfl⟩) | (go_at_call 178; refine (hD _).mono ?_; rintro e w' ⟨rfl, rfl⟩) | (go_at_call 179; refine (hM _).mono ?_; rintro e w' ⟨rfl, rfl⟩))
              go_ret
              exact ⟨rfl, hb⟩
            · have q15 : decide (15 < f) = false := decide_eq_false h15
              rw [if_neg (by omega)]
              go_enter Tryz.func117, Tryz.ntmps117
              go_wp2_with (first | (go_at_call 67; refine (hH _).mono ?_; rintro e w' ⟨rfl, rfl⟩) | (go_at_call 178; refine (hD _).mono ?_; rintro e w' ⟨rfl, rfl⟩) | (go_at_call 179; refine (hM _).mono ?_; rintro e w' ⟨rfl, rfl⟩))
              go_ret
              exact ⟨rfl, hb⟩
set_option maxRecDepth 100000 in
set_option maxHeartbeats 2000000 in
theorem refLawful_5 (c s n : Nat) (f : Int) (a : Option Addr) (len cap : Nat) (w : World) :
    Calls Tryz.prog 117 #[.agg #[.int .i64 5, .int .u32 c, .int .u32 s, .int .u32 n, .int .i64 f, .slice a len cap]] w fun e w' => e = .returned (.int .i64 (LW 5 c s n f len len)) ∧ Below w.heap.size w w' := by
  have hH := refHost_any 5
  have hD := refDevice_any 5
  have hM := refData_any 5 len
  unfold LW
  rw [show hostK 5 = true from rfl] at hH ⊢
  rw [show devK 5 = false from rfl] at hD ⊢
  rw [show hNum 5 = true from rfl, show mFl 5 = 0 from rfl]
  have hS : mSess 5 s = decide ((s : Int) ≠ 0) := rfl
  generalize mData 5 len = D at *
  have hb : Below w.heap.size w (w.alloc (.cells #[.int .i64 5, .int .u32 c, .int .u32 s, .int .u32 n, .int .i64 f, .slice a len cap] 114)) := (Below.refl _ _).alloc (Nat.le_refl _) _
  rw [if_neg (by simp)]
  by_cases hc : (c : Int) = 0
  · rw [if_pos hc, hc]
    rw [hc] at hb
    go_enter Tryz.func117, Tryz.ntmps117
    go_wp2_with (first | (go_at_call 67; refine (hH _).mono ?_; rintro e w' ⟨rfl, rfl⟩) | (go_at_call 178; refine (hD _).mono ?_; rintro e w' ⟨rfl, rfl⟩) | (go_at_call 179; refine (hM _).mono ?_; rintro e w' ⟨rfl, rfl⟩))
    go_ret
    exact ⟨rfl, hb⟩
  · rw [if_neg hc]
    have qc : ((c : Int) == 0) = false := by simpa using hc
    cases D
    · rw [if_pos (Or.inr rfl)]
      go_enter Tryz.func117, Tryz.ntmps117
      go_wp2_with (first | (go_at_call 67; refine (hH _).mono ?_; rintro e w' ⟨rfl, rfl⟩) | (go_at_call 178; refine (hD _).mono ?_; rintro e w' ⟨rfl, rfl⟩) | (go_at_call 179; refine (hM _).mono ?_; rintro e w' ⟨rfl, rfl⟩))
      go_ret
      exact ⟨rfl, hb⟩
    · rw [if_neg (by simp)]
      by_cases hs : (s : Int) = 0
      · rw [if_pos (by rw [hS]; simpa using hs), hs]
        rw [hs] at hb
        go_enter Tryz.func117, Tryz.ntmps117
        go_wp2_with (first | (go_at_call 67; refine (hH _).mono ?_; rintro e w' ⟨rfl, rfl⟩) | (go_at_call 178; refine (hD _).mono ?_; rintro e w' ⟨rfl, rfl⟩) | (go_at_call 179; refine (hM _).mono ?_; rintro e w' ⟨rfl, rfl⟩))
        go_ret
        exact ⟨rfl, hb⟩
      · rw [if_neg (by rw [hS]; simpa using hs)]
        have qs : ((s : Int) == 0) = false := by simpa using hs
        by_cases hn : (n : Int) = 0
        · rw [if_pos (by simp [hn]), hn]
          rw [hn] at hb
          go_enter Tryz.func117, Tryz.ntmps117
          go_wp2_with (first | (go_at_call 67; refine (hH _).mono ?_; rintro e w' ⟨rfl, rfl⟩) | (go_at_call 178; refine (hD _).mono ?_; rintro e w' ⟨rfl, rfl⟩) | (go_at_call 179; refine (hM _).mono ?_; rintro e w' ⟨rfl, rfl⟩))
          go_ret
          exact ⟨rfl, hb⟩
        · rw [if_neg (by simpa using hn)]
          have qn : ((n : Int) == 0) = false := by simpa using hn
          have qn2 : ((n : Int) != 0) = true := by simpa using hn
          by_cases hf : f < 0
          · rw [if_pos (Or.inl hf)]
            have qf : decide (f < 0) = true := decide_eq_true hf
            go_enter Tryz.func117, Tryz.ntmps117
            go_wp2_with (first | (go_at_call 67; refine (hH _).mono ?_; rintro e w' ⟨rfl, rfl⟩) | (go_at_call 178; refine (hD _).mono ?_; rintro e w' ⟨rfl, rfl⟩) | (go_at_call 179; refine (hM _).mono ?_; rintro e w' ⟨rfl, rfl⟩))
            go_ret
            exact ⟨rfl, hb⟩
          · have qf : decide (f < 0) = false := decide_eq_false hf
            by_cases h15 : 15 < f
            · rw [if_pos (by omega)]
              have q15 : decide (15 < f) = true := decide_eq_true h15
              go_enter Tryz.func117, Tryz.ntmps117
              go_wp2_with (first | (go_at_call 67; refine (hH _).mono ?_; rintro e w' ⟨rfl, rfl⟩) | (go_at_call 178; refine (hD _).mono ?_; rintro e w' ⟨rfl, rfl⟩) | (go_at_call 179; refine (hM _).mono ?_; rintro e w' ⟨rfl, rfl⟩))
              go_ret
              exact ⟨rfl, hb⟩
            · have q15 : decide (15 < f) = false := decide_eq_false h15
              by_cases h0 : f = 0
              · rw [if_neg (by omega)]
                subst h0
                go_enter Tryz.func117, Tryz.ntmps117
                go_wp2_with (first | (go_at_call 67; refine (hH _).mono ?_; rintro e w' ⟨rfl, rfl⟩) | (go_at_call 178; refine (hD _).mono ?_; rintro e w' ⟨rfl, rfl⟩) | (go_at_call 179; refine (hM _).mono ?_; rintro e w' ⟨rfl, rfl⟩))
                go_ret
                exact ⟨rfl, hb⟩
              · rw [if_pos (by omega)]
                have q0 : (f == 0) = false := by simpa using h0
                go_enter Tryz.func117, Tryz.ntmps117
                go_wp2_with (first | (go_at_call 67; refine (hH _).mono ?_; rintro e w' ⟨rfl, rfl⟩) | (go_at_call 178; refine (hD _).mono ?_; rintro e w' ⟨rfl, rfl⟩) | (go_at_call 179; refine (hM _).mono ?_; rintro e w' ⟨rfl, rfl⟩))
                go_ret
                exact ⟨rfl, hb⟩
set_option maxRecDepth 100000 in
set_option maxHeartbeats 2000000 in
theorem refLawful_21 (c s n : Nat) (f : Int) (a : Option Addr) (len cap : Nat) (w : World) :
    Calls Tryz.prog 117 #[.agg #[.int .i64 21, .int .u32 c, .int .u32 s, .int .u32 n, .int .i64 f, .slice a len cap]] w fun e w' => e = .returned (.int .i64 (LW 21 c s n f len len)) ∧ Below w.heap.size w w' := by
  have hH := refHost_any 21
  have hD := refDevice_any 21
  have hM := refData_any 21 len
  unfold LW
  rw [show hostK 21 = false from rfl] at hH ⊢
  rw [show devK 21 = true from rfl] at hD ⊢
  rw [show hNum 21 = true from rfl, show mFl 21 = 0 from rfl]
  have hS : mSess 21 s = decide ((s : Int) ≠ 0) := rfl
  generalize mData 21 len = D at *
  have hb : Below w.heap.size w (w.alloc (.cells #[.int .i64 21, .int .u32 c, .int .u32 s, .int .u32 n, .int .i64 f, .slice a len cap] 114)) := (Below.refl _ _).alloc (Nat.le_refl _) _
  rw [if_neg (by simp)]
  by_cases hc : (c : Int) = 0
  · rw [if_pos hc, hc]
    rw [hc] at hb
    go_enter Tryz.func117, Tryz.ntmps117
    go_wp2_with (first | (go_at_call 67; refine (hH _).mono ?_; rintro e w' ⟨rfl, rfl⟩) | (go_at_call 178; refine (hD _).mono ?_; rintro e w' ⟨rfl, rfl⟩) | (go_at_call 179; refine (hM _).mono ?_; rintro e w' ⟨rfl, rfl⟩))
    go_ret
    exact ⟨rfl, hb⟩
  · rw [if_neg hc]
    have qc : ((c : Int) == 0) = false := by simpa using hc
    cases D
    · rw [if_pos (Or.inr rfl)]
      go_enter Tryz.func117, Tryz.ntmps117
      go_wp2_with (first | (go_at_call 67; refine (hH _).mono ?_; rintro e w' ⟨rfl, rfl⟩) | (go_at_call 178; refine (hD _).mono ?_; rintro e w' ⟨rfl, rfl⟩) | (go_at_call 179; refine (hM _).mono ?_; rintro e w' ⟨rfl, rfl⟩))
      go_ret
      exact ⟨rfl, hb⟩
    · rw [if_neg (by simp)]
      by_cases hs : (s : Int) = 0
      · rw [if_pos (by rw [hS]; simpa using hs), hs]
        rw [hs] at hb
        go_enter Tryz.func117, Tryz.ntmps117
        go_wp2_with (first | (go_at_call 67; refine (hH _).mono ?_; rintro e w' ⟨rfl, rfl⟩) | (go_at_call 178; refine (hD _).mono ?_; rintro e w' ⟨rfl, rfl⟩) | (go_at_call 179; refine (hM _).mono ?_; rintro e w' ⟨rfl, rfl⟩))
        go_ret
        exact ⟨rfl, hb⟩
      · rw [if_neg (by rw [hS]; simpa using hs)]
        have qs : ((s : Int) == 0) = false := by simpa using hs
        by_cases hn : (n : Int) = 0
        · rw [if_pos (by simp [hn]), hn]
          rw [hn] at hb
          go_enter Tryz.func117, Tryz.ntmps117
          go_wp2_with (first | (go_at_call 67; refine (hH _).mono ?_; rintro e w' ⟨rfl, rfl⟩) | (go_at_call 178; refine (hD _).mono ?_; rintro e w' ⟨rfl, rfl⟩) | (go_at_call 179; refine (hM _).mono ?_; rintro e w' ⟨rfl, rfl⟩))
          go_ret
          exact ⟨rfl, hb⟩
        · rw [if_neg (by simpa using hn)]
          have qn : ((n : Int) == 0) = false := by simpa using hn
          have qn2 : ((n : Int) != 0) = true := by simpa using hn
          by_cases hf : f < 0
          · rw [if_pos (Or.inl hf)]
            have qf : decide (f < 0) = true := decide_eq_true hf
            go_enter Tryz.func117, Tryz.ntmps117
            go_wp2_with (first | (go_at_call 67; refine (hH _).mono ?_; rintro e w' ⟨rfl, rfl⟩) | (go_at_call 178; refine (hD _).mono ?_; rintro e w' ⟨rfl, rfl⟩) | (go_at_call 179; refine (hM _).mono ?_; rintro e w' ⟨rfl, rfl⟩))
            go_ret
            exact ⟨rfl, hb⟩
          · have qf : decide (f < 0) = false := decide_eq_false hf
            by_cases h15 : 15 < f
            · rw [if_pos (by omega)]
              have q15 : decide (15 < f) = true := decide_eq_true h15
              go_enter Tryz.func117, Tryz.ntmps117
              go_wp2_with (first | (go_at_call 67; refine (hH _).mono ?_; rintro e w' ⟨rfl, rfl⟩) | (go_at_call 178; refine (hD _).mono ?_; rintro e w' ⟨rfl, rfl⟩) | (go_at_call 179; refine (hM _).mono ?_; rintro e w' ⟨rfl, rfl⟩))
              go_ret
              exact ⟨rfl, hb⟩
            · have q15 : decide (15 < f) = false := decide_eq_false h15
              by_cases h0 : f = 0
              · rw [if_neg (by omega)]
                subst h0
                go_enter Tryz.func117, Tryz.ntmps117
                go_wp2_with (first | (go_at_call 67; refine (hH _).mono ?_; rintro e w' ⟨rfl, rfl⟩) | (go_at_call 178; refine (hD _).mono ?_; rintro e w' ⟨rfl, rfl⟩) | (go_at_call 179; refine (hM _).mono ?_; rintro e w' ⟨rfl, rfl⟩))
                go_ret
                exact ⟨rfl, hb⟩
              · rw [if_pos (by omega)]
                have q0 : (f == 0) = false := by simpa using h0
                go_enter Tryz.func117, Tryz.ntmps117
                go_wp2_with (first | (go_at_call 67; refine (hH _).mono ?_; rintro e w' ⟨rfl, rfl⟩) | (go_at_call 178; refine (hD _).mono ?_; rintro e w' ⟨rfl, rfl⟩) | (go_at_call 179; refine (hM _).mono ?_; rintro e w' ⟨rfl, rfl⟩))
                go_ret
                exact ⟨rfl, hb⟩
set_option maxRecDepth 100000 in
set_option maxHeartbeats 2000000 in
theorem refLawful_other (k : Int) (h1 : k ≠ 1) (h22 : k ≠ 22) (h4 : k ≠ 4) (h20 : k ≠ 20) (h5 : k ≠ 5) (h21 : k ≠ 21) (c s n : Nat) (f : Int) (a : Option Addr) (len cap : Nat) (w : World) :
    Calls Tryz.prog 117 #[.agg #[.int .i64 k, .int .u32 c, .int .u32 s, .int .u32 n, .int .i64 f, .slice a len cap]] w fun e w' => e = .returned (.int .i64 (LW k c s n f len len)) ∧ Below w.heap.size w w' := by
  have hH := refHost_any k
  have hD := refDevice_any k
  have hM := refData_any k len
  have hc0 : ¬ cont k = 2 := by
    intro e
    unfold cont at e
    by_cases g1 : k = 1 ∨ k = 2 ∨ k = 17
    · rw [if_pos g1] at e; omega
    · rw [if_neg g1, if_neg (by omega)] at e; omega
  have hN : hNum k = false := decide_eq_false (by omega)
  have hF : mFl k = 0 := if_neg hc0
  have q1 : (k == 1) = false := by simpa using h1
  have q22 : (k == 22) = false := by simpa using h22
  have p1 : (k != 1) = true := by simpa using h1
  have p22 : (k != 22) = true := by simpa using h22
  have q4 : (k == 4) = false := by simpa using h4
  have q20 : (k == 20) = false := by simpa using h20
  have q5 : (k == 5) = false := by simpa using h5
  have q21 : (k == 21) = false := by simpa using h21
  have hS : mSess k s = decide ((s : Int) ≠ 0) := by unfold mSess; rw [if_neg h1, if_neg h22]
  unfold LW
  rw [hS, hF, hN]
  clear hF hN hc0 h1 h22 h4 h20 h5 h21
  generalize hostK k = A at *
  generalize devK k = B at *
  generalize mData k len = D at *
  generalize mSess k s = S at *
  have hb : Below w.heap.size w (w.alloc (.cells #[.int .i64 k, .int .u32 c, .int .u32 s, .int .u32 n, .int .i64 f, .slice a len cap] 114)) := (Below.refl _ _).alloc (Nat.le_refl _) _
  by_cases h0 : A = false ∧ B = false
  · obtain ⟨rfl, rfl⟩ := h0
    rw [if_pos ⟨rfl, rfl⟩]
    clear hS
    go_enter Tryz.func117, Tryz.ntmps117
    go_wp2_with (first | (go_at_call 67; refine (hH _).mono ?_; rintro e w' ⟨rfl, rfl⟩) | (go_at_call 178; refine (hD _).mono ?_; rintro e w' ⟨rfl, rfl⟩) | (go_at_call 179; refine (hM _).mono ?_; rintro e w' ⟨rfl, rfl⟩))
    go_ret
    exact ⟨rfl, hb⟩
  · rw [if_neg h0]
    have h1 : A = true ∨ (A = false ∧ B = true) := by
      cases A
      · cases B
        · exact absurd ⟨rfl, rfl⟩ h0
        · exact Or.inr ⟨rfl, rfl⟩
      · exact Or.inl rfl
    clear h0
    by_cases hc : (c : Int) = 0
    · rw [if_pos hc, hc]
      rw [hc] at hb
      clear hS
      rcases h1 with rfl | ⟨rfl, rfl⟩
      all_goals
        go_enter Tryz.func117, Tryz.ntmps117
        go_wp2_with (first | (go_at_call 67; refine (hH _).mono ?_; rintro e w' ⟨rfl, rfl⟩) | (go_at_call 178; refine (hD _).mono ?_; rintro e w' ⟨rfl, rfl⟩) | (go_at_call 179; refine (hM _).mono ?_; rintro e w' ⟨rfl, rfl⟩))
        go_ret
        exact ⟨rfl, hb⟩
    · rw [if_neg hc]
      have qc : ((c : Int) == 0) = false := by simpa using hc
      cases D
      · rw [if_pos (Or.inr rfl)]
        clear hS
        rcases h1 with rfl | ⟨rfl, rfl⟩
        all_goals
          go_enter Tryz.func117, Tryz.ntmps117
          go_wp2_with (first | (go_at_call 67; refine (hH _).mono ?_; rintro e w' ⟨rfl, rfl⟩) | (go_at_call 178; refine (hD _).mono ?_; rintro e w' ⟨rfl, rfl⟩) | (go_at_call 179; refine (hM _).mono ?_; rintro e w' ⟨rfl, rfl⟩))
          go_ret
          exact ⟨rfl, hb⟩
      · rw [if_neg (by simp)]
        by_cases hs : (s : Int) = 0
        · rw [if_pos (by simp [hs]), hs]
          rw [hs] at hb
          rcases h1 with rfl | ⟨rfl, rfl⟩
          all_goals
            go_enter Tryz.func117, Tryz.ntmps117
            go_wp2_with (first | (go_at_call 67; refine (hH _).mono ?_; rintro e w' ⟨rfl, rfl⟩) | (go_at_call 178; refine (hD _).mono ?_; rintro e w' ⟨rfl, rfl⟩) | (go_at_call 179; refine (hM _).mono ?_; rintro e w' ⟨rfl, rfl⟩))
            go_ret
            exact ⟨rfl, hb⟩
        · rw [if_neg (by simpa using hs)]
          have qs : ((s : Int) == 0) = false := by simpa using hs
          by_cases hn : (n : Int) = 0
          · rw [if_neg (by simp [hn]), hn]
            rw [hn] at hb
            by_cases hf : f < 0
            · rw [if_pos (Or.inl hf)]
              have qf : decide (f < 0) = true := decide_eq_true hf
              rcases h1 with rfl | ⟨rfl, rfl⟩
              all_goals
                go_enter Tryz.func117, Tryz.ntmps117
                go_wp2_with (first | (go_at_call 67; refine (hH _).mono ?_; rintro e w' ⟨rfl, rfl⟩) | (go_at_call 178; refine (hD _).mono ?_; rintro e w' ⟨rfl, rfl⟩) | (go_at_call 179; refine (hM _).mono ?_; rintro e w' ⟨rfl, rfl⟩))
                go_ret
                exact ⟨rfl, hb⟩
            · have qf : decide (f < 0) = false := decide_eq_false hf
              by_cases h15 : 15 < f
              · rw [if_pos (by omega)]
                have q15 : decide (15 < f) = true := decide_eq_true h15
                rcases h1 with rfl | ⟨rfl, rfl⟩
                all_goals
                  go_enter Tryz.func117, Tryz.ntmps117
                  go_wp2_with (first | (go_at_call 67; refine (hH _).mono ?_; rintro e w' ⟨rfl, rfl⟩) | (go_at_call 178; refine (hD _).mono ?_; rintro e w' ⟨rfl, rfl⟩) | (go_at_call 179; refine (hM _).mono ?_; rintro e w' ⟨rfl, rfl⟩))
                  go_ret
                  exact ⟨rfl, hb⟩
              · have q15 : decide (15 < f) = false := decide_eq_false h15
                by_cases h0 : f = 0
                · rw [if_neg (by omega)]
                  subst h0
                  rcases h1 with rfl | ⟨rfl, rfl⟩
                  all_goals
                    go_enter Tryz.func117, Tryz.ntmps117
                    go_wp2_with (first | (go_at_call 67; refine (hH _).mono ?_; rintro e w' ⟨rfl, rfl⟩) | (go_at_call 178; refine (hD _).mono ?_; rintro e w' ⟨rfl, rfl⟩) | (go_at_call 179; refine (hM _).mono ?_; rintro e w' ⟨rfl, rfl⟩))
                    go_ret
                    exact ⟨rfl, hb⟩
                · rw [if_pos (by omega)]
                  have q0 : (f == 0) = false := by simpa using h0
                  rcases h1 with rfl | ⟨rfl, rfl⟩
                  all_goals
                    go_enter Tryz.func117, Tryz.ntmps117
                    go_wp2_with (first | (go_at_call 67; refine (hH _).mono ?_; rintro e w' ⟨rfl, rfl⟩) | (go_at_call 178; refine (hD _).mono ?_; rintro e w' ⟨rfl, rfl⟩) | (go_at_call 179; refine (hM _).mono ?_; rintro e w' ⟨rfl, rfl⟩))
                    go_ret
                    exact ⟨rfl, hb⟩
          · rw [if_pos (by simpa using hn)]
            have qn : ((n : Int) == 0) = false := by simpa using hn
            have qn2 : ((n : Int) != 0) = true := by simpa using hn
            rcases h1 with rfl | ⟨rfl, rfl⟩
            all_goals
              go_enter Tryz.func117, Tryz.ntmps117
              go_wp2_with (first | (go_at_call 67; refine (hH _).mono ?_; rintro e w' ⟨rfl, rfl⟩) | (go_at_call 178; refine (hD _).mono ?_; rintro e w' ⟨rfl, rfl⟩) | (go_at_call 179; refine (hM _).mono ?_; rintro e w' ⟨rfl, rfl⟩))
              go_ret
              exact ⟨rfl, hb⟩
theorem refLawful_any (k : Int) (c s n : Nat) (f : Int) (a : Option Addr) (len cap : Nat) (w : World) :
    Calls Tryz.prog 117 #[.agg #[.int .i64 k, .int .u32 c, .int .u32 s, .int .u32 n, .int .i64 f, .slice a len cap]] w fun e w' => e = .returned (.int .i64 (LW k c s n f len len)) ∧ Below w.heap.size w w' := by
  by_cases h1 : k = 1
  · subst h1; exact refLawful_1 c s n f a len cap w
  by_cases h22 : k = 22
  · subst h22; exact refLawful_22 c s n f a len cap w
  by_cases h4 : k = 4
  · subst h4; exact refLawful_4 c s n f a len cap w
  by_cases h20 : k = 20
  · subst h20; exact refLawful_20 c s n f a len cap w
  by_cases h5 : k = 5
  · subst h5; exact refLawful_5 c s n f a len cap w
  by_cases h21 : k = 21
  · subst h21; exact refLawful_21 c s n f a len cap w
  exact refLawful_other k h1 h22 h4 h20 h5 h21 c s n f a len cap w
end Go.Proofs.YtffehehghpafdaaGreat
namespace Go.Proofs.YtffehehghpafdaaGreat
set_option maxRecDepth 100000
open Go.RowKit
theorem fr_build2 (K c s n F len : Nat) (bs : Nat → Nat) (i : Nat) (_ : i < 15 + len) :
    (if i < 15 then (if i < 13 then (if i < 9 then (if i < 5 then (if i = 0 then K else PM.w4 c (i - 1)) else PM.w4 s (i - 5)) else PM.w4 n (i - 9)) else (if i - 13 = 0 then F else len)) else bs (i - 15)) = fr K c s n F len bs i := by
  unfold fr
  by_cases h0 : i = 0
  · simp (disch := omega) only [if_pos]
  · by_cases h1 : i < 5
    · simp (disch := omega) only [if_pos, if_neg]
    · by_cases h2 : i < 9
      · simp (disch := omega) only [if_pos, if_neg]
      · by_cases h3 : i < 13
        · simp (disch := omega) only [if_pos, if_neg]
        · by_cases h4 : i = 13
          · simp (disch := omega) only [if_pos, if_neg]
          · by_cases h5 : i = 14
            · simp (disch := omega) only [if_pos, if_neg]
            · simp (disch := omega) only [if_pos, if_neg]
theorem row2 (w : World) (x y : Nat) (hx : x < 256) (hy : y < 256) : Row8 (w.alloc (.cells #[.int .u8 (x : Int), .int .u8 (y : Int)] 5)) (some ⟨w.heap.size, 0, none⟩) 2 2 (fun i => if i = 0 then x else y) := by
  refine row8_new w _ _ _ 2 (fun i _ => ?_) (fun i hi => ?_)
  · by_cases h : i = 0
    · rw [if_pos h]; exact hx
    · rw [if_neg h]; exact hy
  · rcases (show i = 0 ∨ i = 1 by omega) with rfl | rfl <;> rfl
set_option maxRecDepth 100000 in
set_option maxHeartbeats 1000000 in
theorem refEncode_bad (k : Int) (c s n : Nat) (f : Int) (a : Option Addr) (len cap : Nat) (w : World) (hE : LW k c s n f len len ≠ 0) :
    Calls Tryz.prog 105 #[.agg #[.int .i64 k, .int .u32 c, .int .u32 s, .int .u32 n, .int .i64 f, .slice a len cap]] w fun e w' => e = .returned (.tuple #[.slice none 0 0, .int .i64 (LW k c s n f len len)]) ∧ Below w.heap.size w w' := by
  have hb : Below w.heap.size w (w.alloc (.cells #[.int .i64 k, .int .u32 c, .int .u32 s, .int .u32 n, .int .i64 f, .slice a len cap] 114)) := (Below.refl _ _).alloc (Nat.le_refl _) _
  have hF := refLawful_any k c s n f a len cap (w.alloc (.cells #[.int .i64 k, .int .u32 c, .int .u32 s, .int .u32 n, .int .i64 f, .slice a len cap] 114))
  generalize LW k c s n f len len = E at *
  have q : (E == 0) = false := by simpa using hE
  go_enter Tryz.func105, Tryz.ntmps105
  go_wp2_with fail
  refine hF.mono ?_
  rintro e w1 ⟨rfl, hb1⟩
  have hb2 := below_all hb hb.size hb1
  clear hb hF hb1
  go_wp2_with fail
  go_ret2
  exact ⟨rfl, hb2⟩
set_option maxRecDepth 100000 in
set_option maxHeartbeats 2000000 in
theorem refEncode_good (K c s n F : Nat) (a : Option Addr) (len cap : Nat) (bs : Nat → Nat) (w : World) (hr : Row8 w a len cap bs) (hc : c < 4294967296) (hs : s < 4294967296) (hn : n < 4294967296) (hE : LW K c s n F len len = 0) :
    Calls Tryz.prog 105 #[.agg #[.int .i64 K, .int .u32 c, .int .u32 s, .int .u32 n, .int .i64 F, .slice a len cap]] w fun e w' => ∃ v, e = .returned (.tuple #[v, .int .i64 0]) ∧
      Hid (w'.ownsRow w.heap.size 5 1 v (15 + len + 4) (CB (PM.sl (fr K c s n F len bs) (15 + len)) (15 + len + 4)) ∧ Below w.heap.size w w') := by
  obtain ⟨i0, hi, hz0, hz1, hz2⟩ := info_parts info_u8
  obtain ⟨hkk, _, _, hll, hff⟩ := LW_zero hE
  have hA : Below w.heap.size w (w.alloc (.cells #[.int .i64 K, .int .u32 c, .int .u32 s, .int .u32 n, .int .i64 F, .slice a len cap] 114)) := (Below.refl _ _).alloc (Nat.le_refl _) _
  have hL := refLawful_any K c s n F a len cap (w.alloc (.cells #[.int .i64 K, .int .u32 c, .int .u32 s, .int .u32 n, .int .i64 F, .slice a len cap] 114))
  rw [hE] at hL
  have hX := box_new w K c s n F (.slice a len cap)
  have hAs : w.heap.size < (w.alloc (.cells #[.int .i64 K, .int .u32 c, .int .u32 s, .int .u32 n, .int .i64 F, .slice a len cap] 114)).heap.size := by simp
  have hrA := hr.below hA
  clear hE hr
  go_enter Tryz.func105, Tryz.ntmps105
  go_wp2_with fail
  refine hL.mono ?_
  rintro e w1 ⟨rfl, hb1⟩
  generalize w.alloc (.cells #[.int .i64 K, .int .u32 c, .int .u32 s, .int .u32 n, .int .i64 F, .slice a len cap] 114) = wa at *
  have hs1 := hb1.size
  have hb2 := hb1.alloc hs1 (.cells #[.int .u8 (K : Int)] 5)
  have O2 : (w1.alloc (.cells #[.int .u8 (K : Int)] 5)).ownsRow wa.heap.size 5 1 (.slice (some ⟨w1.heap.size, 0, none⟩) 1 1) 1 (CB (fun _ => K) 1) := ⟨rfl, .inr ⟨w1.heap.size, 1, _, rfl, hs1, heap_alloc_new w1 _, Nat.le_refl _, by unfold maxLen; omega, rfl, rfl⟩⟩
  have hKm : (K : Int) % 256 = (K : Int) := by omega
  have hFm : (F : Int) % 256 = (F : Int) := by omega
  have hlm : (len : Int) % 256 = (len : Int) := by omega
  have x0 := (hX w1 hb1).c0
  have x1 := (hX _ hb2).c1
  clear hL
  go_wp2_with fail
  generalize w1.alloc (.cells #[.int .u8 (K : Int)] 5) = w2 at *
  refine (refWord_any c _ hc).mono ?_
  rintro e u3 ⟨rfl, rfl⟩
  have R3 := row4 w2 c hc
  have P3 := O2.alloc (.cells #[.int .u8 ((c : Int) / 16777216), .int .u8 ((c : Int) / 65536 % 256), .int .u8 ((c : Int) / 256 % 256), .int .u8 ((c : Int) % 256)] 5)
  have hs3 : wa.heap.size ≤ w2.heap.size := hb2.size
  have B3 := hb2.alloc hs3 (.cells #[.int .u8 ((c : Int) / 16777216), .int .u8 ((c : Int) / 65536 % 256), .int .u8 ((c : Int) / 256 % 256), .int .u8 ((c : Int) % 256)] 5)
  have ht3 := B3.size
  clear O2 hb2
  go_wp2_with (at_builtin; refine wpList_append_row8 rfl (.tmp 15) (.tmp 18) 29 rfl wa.heap.size 5 i0 (.int .u8 0) Tryz.underlying29 hi hz0 hz1 hz2 rfl _ 1 _ rfl P3 _ 4 4 (PM.w4 c) rfl R3 (by unfold maxLen; omega) (by omega) ht3 ?_)
  intro v3 w3 O3 G3
  have C3 : Below wa.heap.size wa w3 := B3.grown G3 ht3 (fun j hj => (P3.lt j hj).1)
  rw [CB_append] at O3
  clear R3 P3 B3 G3
  have x2 := (hX w3 C3).c2
  go_wp2_with fail
  refine (refWord_any s _ hs).mono ?_
  rintro e u4 ⟨rfl, rfl⟩
  have R4 := row4 (w3) s hs
  have P4 := O3.alloc (.cells #[.int .u8 ((s : Int) / 16777216), .int .u8 ((s : Int) / 65536 % 256), .int .u8 ((s : Int) / 256 % 256), .int .u8 ((s : Int) % 256)] 5)
  have hs4 : wa.heap.size ≤ (w3).heap.size := C3.size
  have B4 := C3.alloc hs4 (.cells #[.int .u8 ((s : Int) / 16777216), .int .u8 ((s : Int) / 65536 % 256), .int .u8 ((s : Int) / 256 % 256), .int .u8 ((s : Int) % 256)] 5)
  have ht4 := B4.size
  clear O3 C3
  go_wp2_with (at_builtin; refine wpList_append_row8 rfl (.tmp 20) (.tmp 23) 29 rfl wa.heap.size 5 i0 (.int .u8 0) Tryz.underlying29 hi hz0 hz1 hz2 rfl _ 5 _ rfl P4 _ 4 4 (PM.w4 s) rfl R4 (by unfold maxLen; omega) (by omega) ht4 ?_)
  intro v4 w4 O4 G4
  have C4 : Below wa.heap.size wa w4 := B4.grown G4 ht4 (fun j hj => (P4.lt j hj).1)
  rw [CB_append] at O4
  clear R4 P4 B4 G4
  have x3 := (hX w4 C4).c3
  go_wp2_with fail
  refine (refWord_any n _ hn).mono ?_
  rintro e u5 ⟨rfl, rfl⟩
  have R5 := row4 (w4) n hn
  have P5 := O4.alloc (.cells #[.int .u8 ((n : Int) / 16777216), .int .u8 ((n : Int) / 65536 % 256), .int .u8 ((n : Int) / 256 % 256), .int .u8 ((n : Int) % 256)] 5)
  have hs5 : wa.heap.size ≤ (w4).heap.size := C4.size
  have B5 := C4.alloc hs5 (.cells #[.int .u8 ((n : Int) / 16777216), .int .u8 ((n : Int) / 65536 % 256), .int .u8 ((n : Int) / 256 % 256), .int .u8 ((n : Int) % 256)] 5)
  have ht5 := B5.size
  clear O4 C4
  go_wp2_with (at_builtin; refine wpList_append_row8 rfl (.tmp 25) (.tmp 28) 29 rfl wa.heap.size 5 i0 (.int .u8 0) Tryz.underlying29 hi hz0 hz1 hz2 rfl _ 9 _ rfl P5 _ 4 4 (PM.w4 n) rfl R5 (by unfold maxLen; omega) (by omega) ht5 ?_)
  intro v5 w5 O5 G5
  have C5 : Below wa.heap.size wa w5 := B5.grown G5 ht5 (fun j hj => (P5.lt j hj).1)
  rw [CB_append] at O5
  clear R5 P5 B5 G5
  have x4 := (hX w5 C5).c4
  have x5 := (hX w5 C5).c5
  have R6 := row2 w5 F len (by omega) (by omega)
  have P6 := O5.alloc (.cells #[.int .u8 (F : Int), .int .u8 (len : Int)] 5)
  have hs6 := C5.size
  have B6 := C5.alloc hs6 (.cells #[.int .u8 (F : Int), .int .u8 (len : Int)] 5)
  have ht6 := B6.size
  clear O5 C5
  go_wp2_with (at_builtin; refine wpList_append_row8 rfl (.tmp 30) (.tmp 38) 29 rfl wa.heap.size 5 i0 (.int .u8 0) Tryz.underlying29 hi hz0 hz1 hz2 rfl _ 13 _ rfl P6 _ 2 2 (fun i => if i = 0 then F else len) rfl R6 (by unfold maxLen; omega) (by omega) ht6 ?_)
  intro v6 w6 O6 G6
  have C6 : Below wa.heap.size wa w6 := B6.grown G6 ht6 (fun j hj => (P6.lt j hj).1)
  rw [CB_append] at O6
  clear R6 P6 B6 G6
  have x6 := (hX w6 C6).c5
  have R7 := hrA.below C6
  have ht7 := C6.size
  go_wp2_with (at_builtin; refine wpList_append_row8 rfl (.tmp 40) (.tmp 42) 29 rfl wa.heap.size 5 i0 (.int .u8 0) Tryz.underlying29 hi hz0 hz1 hz2 rfl _ 15 _ rfl O6 a len cap bs rfl R7 (by unfold maxLen; omega) (by omega) ht7 ?_)
  intro v7 w7 O7 G7
  have C7 : Below wa.heap.size wa w7 := C6.grown G7 ht7 (fun j hj => (O6.lt j hj).1)
  rw [CB_append, CB_congr _ (fr K c s n F len bs) _ (fun j hj => fr_build2 K c s n F len bs j (by omega))] at O7
  have hby : ∀ i, i < 15 + len → fr K c s n F len bs i < 256 := fr_lt (by omega) (by omega) (by omega) hrA.byte
  obtain ⟨a8, c8, rfl, R8⟩ := own_row8 O7 hby
  have hS := refSeal_row a8 (15 + len) c8 _ w7 R8 (by omega)
  have hs8 := C7.size
  have hBB : Below w.heap.size w w7 := hA.trans (C7.mono (Nat.le_of_lt hAs))
  clear O6 C6 R7 G7 O7 R8 hX x0 x1 x2 x3 x4 x5 x6 hrA
  go_wp2_with fail
  refine hS.mono ?_
  rintro e w9 ⟨v, rfl, own9, bel9⟩
  clear hS
  go_wp2_with fail
  go_ret2
  exact ⟨v, rfl, own_base own9 (by omega), below_all hBB (by omega) bel9⟩
end Go.Proofs.YtffehehghpafdaaGreat
namespace Go.Proofs.YtffehehghpafdaaGreat
set_option maxRecDepth 100000
open Go.RowKit
theorem Box.below {wa wx : World} {g : Nat} {k : Int} {c s n : Nat} {f : Int} {v : Value} (h : Box wa g k c s n f v) (hg : g < wa.heap.size) (hb : Below wa.heap.size wa wx) : Box wx g k c s n f v := by
  have h' : ∀ i, wx.cell? ⟨g, i, none⟩ = wa.cell? ⟨g, i, none⟩ := fun i => hb.cell (p := ⟨g, i, none⟩) hg
  exact ⟨(h' 0).trans h.c0, (h' 1).trans h.c1, (h' 2).trans h.c2, (h' 3).trans h.c3, (h' 4).trans h.c4, (h' 5).trans h.c5⟩
end Go.Proofs.YtffehehghpafdaaGreat
namespace Go.Proofs.YtffehehghpafdaaGreat
set_option maxRecDepth 100000
open Go.RowKit
def encI (k c s n : Nat) (f : Int) (len : Nat) (bs : Nat → Nat) : Fm := if LW k c s n f len len = 0 then (15 + len + 4, PM.sl (fr k c s n f.toNat len bs) (15 + len)) else fm0
theorem encI_nat (k c s n f len : Nat) (bs : Nat → Nat) : encI k c s n (f : Int) len bs = encF k c s n f len bs := rfl
set_option maxHeartbeats 1600000 in
theorem frame_any (k c s n : Nat) (f : Int) (a : Option Addr) (len cap : Nat) (bs : Nat → Nat) (w : World) (hr : Row8 w a len cap bs) (hc : c < 4294967296) (hs : s < 4294967296) (hn : n < 4294967296) :
    Calls Tryz.prog 53 #[.agg #[.int .i64 (k : Nat), .int .u32 (c : Nat), .int .u32 (s : Nat), .int .u32 (n : Nat), .int .i64 f, .slice a len cap]] w fun e w' => ∃ v, e = .returned v ∧ Hid (Fr w' w.heap.size v (encI k c s n f len bs) ∧ Below w.heap.size w w') := by
  have b0 : Below w.heap.size w (w.alloc (.cells #[.int .i64 (k : Nat), .int .u32 (c : Nat), .int .u32 (s : Nat), .int .u32 (n : Nat), .int .i64 f, .slice a len cap] 114)) := (Below.refl _ _).alloc (Nat.le_refl _) _
  have fin : Calls Tryz.prog 105 #[.agg #[.int .i64 (k : Nat), .int .u32 (c : Nat), .int .u32 (s : Nat), .int .u32 (n : Nat), .int .i64 f, .slice a len cap]] (w.alloc (.cells #[.int .i64 (k : Nat), .int .u32 (c : Nat), .int .u32 (s : Nat), .int .u32 (n : Nat), .int .i64 f, .slice a len cap] 114)) fun e w' => ∃ v E, e = .returned (.tuple #[v, .int .i64 E]) ∧ Hid (Fr w' w.heap.size v (encI k c s n f len bs) ∧ Below w.heap.size w w') := by
    unfold encI
    by_cases hE : LW k c s n f len len = 0
    · rw [if_pos hE]
      have hf := (LW_zero hE).2.2.2.2
      obtain ⟨F, rfl⟩ : ∃ F : Nat, f = (F : Int) := ⟨f.toNat, by omega⟩
      refine (refEncode_good k c s n F a len cap bs _ (hr.below b0) hc hs hn hE).mono ?_
      rintro e w' ⟨v, rfl, h4⟩
      exact ⟨v, 0, rfl, own_base h4.out.1 b0.size, b0.trans (h4.out.2.mono b0.size)⟩
    · rw [if_neg hE]
      refine (refEncode_bad k c s n f a len cap _ hE).mono ?_
      rintro e w' ⟨rfl, h4⟩
      exact ⟨_, _, rfl, own_nil _ _ _, b0.trans (h4.mono b0.size)⟩
  clear hr hc hs hn b0
  go_enter Tryz.func53, Tryz.ntmps53
  go_wp2_with fail
  refine fin.mono ?_
  rintro e w4 ⟨v, E, rfl, h4⟩
  clear fin
  go_wp2_with fail
  go_ret
  exact ⟨v, rfl, h4⟩
def P0 : Pm := ⟨7, 2, 1, 10, 9⟩
theorem P0_ok : Pok P0 := ⟨by unfold okP P0; decide, by decide, by decide⟩
theorem small_any (w : World) : Calls Tryz.prog 30 #[] w fun e w' => e = .returned (.agg #[.int .u32 (P0.c : Nat), .int .i64 (P0.o : Nat), .int .i64 (P0.i : Nat), .int .i64 (P0.t : Nat), .int .u32 (P0.n : Nat)]) ∧ Below w.heap.size w w' := by
  go_enter Tryz.func30, Tryz.ntmps30
  go_wp2_with fail
  refine bodyPost_ret (v := .agg #[.int .u32 (P0.c : Nat), .int .i64 (P0.o : Nat), .int .i64 (P0.i : Nat), .int .i64 (P0.t : Nat), .int .u32 (P0.n : Nat)]) (by simp [results, Tryz.results30, go_sem, P0]) rfl ⟨rfl, ?_⟩
  exact (Below.refl _ _).alloc (Nat.le_refl _) _
def wishF (P : Pm) : Fm := (23, PM.sl (fr 1 P.c 0 0 0 4 (dsg P)) 19)
theorem LW_wish {c : Nat} (h : c ≠ 0) : LW 1 c 0 0 0 4 4 = 0 := by
  unfold LW
  rw [if_neg (by decide), if_neg (by omega), if_neg (by decide), if_neg (by decide), if_neg (by decide), if_neg (by decide)]
theorem wish_enc (P : Pm) (h : Pok P) : encF 1 P.c 0 0 0 4 (dsg P) = wishF P := by
  exact if_pos (LW_wish h.c0)
theorem BA_congr (f g : Nat → Nat) (n : Nat) (h : ∀ i, i < n → f i = g i) : BA f n = BA g n := by
  unfold BA
  congr 1
  apply List.map_congr_left
  intro i hi
  rw [h i (List.mem_range.1 hi)]
theorem hear_wish (P : Pm) (h : Pok P) (mx n : Nat) (s : Sd) : dhear P mx n s (wishF P).1 (wishF P).2 = dwish P mx n s := by
  obtain ⟨e1, e2, e3, e4, e5, e6, e7⟩ := DE_back 1 P.c 0 0 0 4 (dsg P) h.c (by omega) (by omega) (by omega) (LW_wish h.c0)
  have hd : DE (wishF P).2 (wishF P).1 = 0 := e1
  have h0 : (wishF P).2 0 = 1 := e2
  have h1 : w4v (wishF P).2 1 = P.c := e3
  unfold dhear
  rw [if_neg (by omega), if_neg (by rw [h0]; decide), if_neg (by omega), h0]
  unfold dtake
  rw [if_pos rfl, if_pos]
  unfold dsigned
  exact decide_eq_true (BA_congr _ _ 4 (fun i hi => e7 i hi))
def M0 : Ms := S0 fun _ => 0
theorem open0 (mx : Nat) (h : mx ≠ 0) : opE mx 16 M0 = 0 ∧ opS mx 16 M0 = M0 := by
  have hm : mend M0.bs = [] := by decide
  constructor
  · unfold opE
    rw [if_neg (by omega), if_neg (by decide), hm]
    rfl
  · unfold opS
    rw [if_neg (by omega), if_neg (by decide), hm]
    rfl
theorem next0 (mx : Nat) (h : mx ≠ 0) : (nx mx 16 M0.bs false M0).e = 0 ∧ (nx mx 16 M0.bs false M0).v = 1 := by
  have hv : vz M0.bs = 0 := by decide
  have ht : tg M0.bs = 0 := by decide
  unfold nx
  rw [if_neg (by decide), hv, if_neg (by omega), ht]
  rcases sq_all 16 (six 0 (0 + 1)) M0 (fun x hx => (six_in _ _ 16 (by omega) (by omega) x hx).1) rfl (Int.le_refl _) with ⟨e, _⟩ | ⟨_, _, e, _⟩
  · rw [if_pos e]; exact ⟨rfl, rfl⟩
  · cases e
theorem first_wish (P : Pm) (h : Pok P) (mx : Nat) (hm : mx ≠ 0) :
    (drecv P mx 16 (dnew M0) (wishF P).1 (wishF P).2).e = 0 ∧ (drecv P mx 16 (dnew M0) (wishF P).1 (wishF P).2).s.st = 2 ∧ (drecv P mx 16 (dnew M0) (wishF P).1 (wishF P).2).f = encF 17 P.c 1 0 0 4 (dsg P) := by
  obtain ⟨n1, n2⟩ := next0 mx hm
  have hw : dwish P mx 16 (dnew M0) = dbegin P mx 16 (dnew M0) := rfl
  have hb : dbegin P mx 16 (dnew M0) = ⟨{ dleave { dnew M0 with ms := (nx mx 16 M0.bs false M0).s } 2 with ss := (nx mx 16 M0.bs false M0).v }, doffer P { dleave { dnew M0 with ms := (nx mx 16 M0.bs false M0).s } 2 with ss := (nx mx 16 M0.bs false M0).v }, 0⟩ := by
    unfold dbegin
    have e1 : (nx mx 16 (dnew M0).ms.bs false (dnew M0).ms).e = 0 := n1
    rw [if_neg (by rw [e1]; decide), if_neg (by rw [e1]; decide)]
    rfl
  unfold drecv
  rw [if_neg (by show (1 : Nat) ≠ 6; omega), hear_wish P h, hw, hb, if_neg (by rintro ⟨e, _⟩; exact e rfl)]
  refine ⟨rfl, rfl, ?_⟩
  show encF 17 P.c (nx mx 16 M0.bs false M0).v 0 0 4 (dsg P) = _
  rw [n2]
theorem LW_offer {c s : Nat} (h : c ≠ 0) (hs : s ≠ 0) : LW 17 c s 0 0 4 4 = 0 := by
  unfold LW
  rw [if_neg (by decide), if_neg (by omega), if_neg (by decide), if_neg (by unfold mSess; rw [if_neg (by omega), if_neg (by omega)]; simp; omega), if_neg (by decide), if_neg (by decide)]
theorem Fr.row {w : World} {M : Nat} {v : Value} {f : Fm} (h : Fr w M v f) (hb : ∀ i, i < f.1 → f.2 i < 256) : ∃ a cap, v = .slice a f.1 cap ∧ Row8 w a f.1 cap f.2 := own_row8 h hb
theorem encF_byte (k c s n f len : Nat) (bs : Nat → Nat) (hb : ∀ i, i < len → bs i < 256) : ∀ i, i < (encF k c s n f len bs).1 → (encF k c s n f len bs).2 i < 256 := by
  unfold encF
  by_cases h : LW k c s n f len len = 0
  · rw [if_pos h]
    have hz := LW_zero h
    intro i _
    have hfr := fr_lt (K := k) (c := c) (s := s) (n := n) (F := f) (len := len) (bs := bs) (by omega) (by omega) (by omega) hb
    show PM.sl _ _ i < 256
    unfold PM.sl PM.ct
    split
    · rename_i h2; exact hfr i h2
    · exact PM.w4_lt _ _
  · rw [if_neg h]; intro i hi; exact absurd hi (Nat.not_lt_zero i)
theorem dsg_byte (P : Pm) : ∀ i, i < 4 → dsg P i < 256 := fun i _ => PM.w4_lt _ i
structure Ow (w0 w : World) (d m g n mx : Nat) (P : Pm) (U : List Nat) (s : Sd) : Prop where
  bel : Below w0.heap.size w0 w
  dv : DV w d m g n mx P U s
  ge : ∀ k, k ∈ U → w0.heap.size ≤ k
theorem Ow.gr {w0 w w' : World} {d m g n mx : Nat} {P : Pm} {U U' : List Nat} {s s' : Sd} (h : Ow w0 w d m g n mx P U s) (q : Gr U w U' w') (x : DV w' d m g n mx P U' s') : Ow w0 w' d m g n mx P U' s' :=
  ⟨q.off.below h.bel h.ge h.bel.size, x, fun k hk => by
    rcases q.new k hk with h1 | h1
    · exact h.ge k h1
    · exact Nat.le_trans h.bel.size h1⟩
theorem Ow.below {w0 w w' : World} {d m g n mx : Nat} {P : Pm} {U : List Nat} {s : Sd} (h : Ow w0 w d m g n mx P U s) (b : Below w.heap.size w w') : Ow w0 w' d m g n mx P U s := h.gr (Gr.below b) (h.dv.below b)
theorem newD_ok (m g n mx : Nat) (P : Pm) (hP : Pok P) (ms : Ms) (w : World) (hM : MR w m g n ms) (hx : mx < 4294967296) (ht : ms.t < 9223372036854774000) (h0 : opE mx n ms = 0) :
    Calls Tryz.prog 32 #[.agg #[.int .u32 (P.c : Nat), .int .i64 (P.o : Nat), .int .i64 (P.i : Nat), .int .i64 (P.t : Nat), .int .u32 (P.n : Nat)], .pointer (some ⟨m, 0, none⟩), .int .u32 (mx : Nat)] w fun e w' => ∃ d, e = .returned (.tuple #[.pointer (some ⟨d, 0, none⟩), .int .i64 0]) ∧ Hid (∃ U, Off [m, g] w w' ∧ DV w' d m g n mx P U (dnew (opS mx n ms)) ∧ ∀ k, k ∈ U → k = m ∨ k = g ∨ w.heap.size ≤ k) := by
  refine (newD_any m g n mx P hP ms w hM hx ht).mono ?_
  rintro e w' ⟨p, rfl, h⟩
  obtain ⟨o, _, hd, _⟩ := h.out
  obtain ⟨d, U, rfl, D, hU⟩ := hd h0
  rw [h0]
  exact ⟨d, rfl, U, o, D, hU⟩
theorem made13 (mx : Nat) (P : Pm) (hP : Pok P) (w0 w : World) (m g : Nat) (hb : Below w0.heap.size w0 w) (hm : w0.heap.size ≤ m) (hg : w0.heap.size ≤ g) (hM : MR w m g 16 M0) (hx : mx < 4294967296) (h0 : mx ≠ 0) :
    Calls Tryz.prog 32 #[.agg #[.int .u32 (P.c : Nat), .int .i64 (P.o : Nat), .int .i64 (P.i : Nat), .int .i64 (P.t : Nat), .int .u32 (P.n : Nat)], .pointer (some ⟨m, 0, none⟩), .int .u32 (mx : Nat)] w fun e w' => ∃ d, e = .returned (.tuple #[.pointer (some ⟨d, 0, none⟩), .int .i64 0]) ∧ Hid (∃ U, Ow w0 w' d m g 16 mx P U (dnew M0)) := by
  have hN := newD_ok m g 16 mx P hP M0 w hM hx (by decide) (open0 mx h0).1
  rw [(open0 mx h0).2] at hN
  refine hN.mono ?_
  rintro e w' ⟨d, rfl, h⟩
  obtain ⟨U, o, D, hU⟩ := h.out
  refine ⟨d, rfl, U, o.below hb (by simp; omega) hb.size, D, fun k hk => ?_⟩
  have := hb.size
  rcases hU k hk with h | h | h <;> omega
theorem seeS_any (d m g n mx : Nat) (P : Pm) (U : List Nat) (s : Sd) (w : World) (h : DV w d m g n mx P U s) :
    Calls Tryz.prog 21 #[.pointer (some ⟨d, 0, none⟩)] w fun e w' => ∃ a cap, e = .returned (.agg #[.int .i64 (s.st : Nat), .int .u32 (s.ss : Nat), .int .u32 (s.nm : Nat), .int .u32 (s.sn : Nat), .int .i64 (s.dc : Nat), .int .i64 s.v.lat, .bool (vreq s.v), .bool (von s.v), .slice a P.o cap]) ∧ Hid (Fr w' w.heap.size (.slice a P.o cap) (P.o, vout s.v) ∧ Row8 w' a P.o cap (vout s.v) ∧ Below w.heap.size w w') := by
  obtain ⟨B, x⟩ := id h
  refine (see_any d m g n mx P U s w h).mono ?_
  rintro e w' ⟨v, rfl, h2⟩
  obtain ⟨a, cap, hv, r⟩ := h2.out.1.row (vout_byte x.val)
  subst hv
  exact ⟨a, cap, rfl, h2.out.1, r, h2.out.2⟩
end Go.Proofs.YtffehehghpafdaaGreat
