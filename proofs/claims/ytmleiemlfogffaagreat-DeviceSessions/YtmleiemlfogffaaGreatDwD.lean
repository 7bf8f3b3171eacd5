/- hear, Receive. -/
import Derived.Test.YtmleiemlfogffaaGreatDw8
import Derived.Test.YtmleiemlfogffaaGreatDw9
import Derived.Test.YtmleiemlfogffaaGreatDwA
import Derived.Test.YtmleiemlfogffaaGreatDwB
import Derived.Test.YtmleiemlfogffaaGreatDwC
import Derived.Test.YtmleiemlfogffaaGreatUDec
import Derived.Test.YtmleiemlfogffaaGreatPar7
namespace Go.Proofs.YtmleiemlfogffaaGreat
set_option maxRecDepth 100000
open Go.RowKit

theorem wf_small (x : Int) (h0 : 0 ≤ x) (h1 : x ≤ 200) : (Lit.int .i64 x).wf = true := by
  have e1 : IntKind.i64.min = -9223372036854775808 := by decide
  have e2 : IntKind.i64.max = 9223372036854775807 := by decide
  simp [Lit.wf, e1, e2]
  omega
theorem own_far {w : World} {M e n m cap : Nat} {a : Option Addr} {xs : List Value} (h : w.ownsRow M e 1 (.slice a m cap) n xs) (x : Addr) (hx : a = some x) : M ≤ x.block ∧ x.block < w.heap.size := by
  rcases h.2 with hn | ⟨g', cap', cur', he, hg', hh, _⟩
  · have := hn.1; rw [hx] at this; cases this
  · rw [hx] at he; cases he; exact ⟨hg', (Array.getElem?_eq_some_iff.1 hh).1⟩
theorem take_any (d m g n mx : Nat) (P : Pm) (U : List Nat) (s : Sd) (k c ss num fl : Nat) (a : Option Addr) (len cap : Nat) (bs : Nat → Nat) (w : World) (h : DV w d m g n mx P U s) (hr : Row8 w a len cap bs) (ha : ∀ x, a = some x → x.block < w.heap.size ∧ x.block ∉ U) (hk : 1 ≤ k ∧ k ≤ 5) (hfl : fl < 16) (hsn : s.sn + 1 < 4294967296) (hs : s.st ≠ 6) (ho : s.od < 4) (hL : s.L.length < 800000) (ht : s.ms.t < 9223372036854774000) :
    Calls Tryz.prog 103 #[.pointer (some ⟨d, 0, none⟩), .agg #[.int .i64 (k : Nat), .int .u32 (c : Nat), .int .u32 (ss : Nat), .int .u32 (num : Nat), .int .i64 (fl : Nat), .slice a len cap]] w fun e w' => ∃ v, e = .returned (.tuple #[v, .int .i64 (dtake P mx n s k ss num fl len bs).e]) ∧ Hid (Out U w w' d m g n mx P (dtake P mx n s k ss num fl len bs).s (dtake P mx n s k ss num fl len bs).f v) := by
  have : k = 1 ∨ k = 2 ∨ k = 3 ∨ k = 4 ∨ k = 5 := by omega
  rcases this with rfl | rfl | rfl | rfl | rfl
  · exact take1_any d m g n mx P U s c ss num fl a len cap bs w h hr ha hfl hsn hs ho hL ht
  · exact take2_any d m g n mx P U s c ss num fl a len cap bs w h hr ha hfl hsn hs ho hL ht
  · exact take3_any d m g n mx P U s c ss num fl a len cap bs w h hr ha hfl hsn hs ho hL ht
  · exact take4_any d m g n mx P U s c ss num fl a len cap bs w h hr ha hfl hsn hs ho hL ht
  · exact take5_any d m g n mx P U s c ss num fl a len cap bs w h hr ha hfl hsn hs ho hL ht
set_option maxHeartbeats 3200000 in
theorem hear_any (d m g n mx : Nat) (P : Pm) (U : List Nat) (s : Sd) (a : Option Addr) (len cap : Nat) (bs : Nat → Nat) (w : World) (h : DV w d m g n mx P U s) (hr : Row8 w a len cap bs) (hsn : s.sn + 1 < 4294967296) (hs : s.st ≠ 6) (ho : s.od < 4) (hL : s.L.length < 800000) (ht : s.ms.t < 9223372036854774000) :
    Calls Tryz.prog 62 #[.pointer (some ⟨d, 0, none⟩), .slice a len cap] w fun e w' => ∃ v, e = .returned (.tuple #[v, .int .i64 (dhear P mx n s len bs).e]) ∧ Hid (Out U w w' d m g n mx P (dhear P mx n s len bs).s (dhear P mx n s len bs).f v) := by
  unfold dhear
  by_cases hE : DE bs len = 0
  · have hD := decode_ok a len cap bs w hr hE
    rw [if_neg (by omega)]
    obtain ⟨_, _, _, hLW⟩ := DE_zero hE
    obtain ⟨hk1, _, _, _, hf1⟩ := LW_zero hLW
    have HH : Hid (_) := And.intro h (And.intro hsn (And.intro hs (And.intro ho (And.intro hL ht))))
    have hby : ∀ i, i < len → bs i < 256 := hr.byte
    obtain ⟨B, x⟩ := id h
    have hdl := x.dlt
    clear h hr hsn hs ho hL ht hLW
    by_cases hK : hostK (bs 0 : Int) = false
    · rw [if_pos hK]
      have hF := fun wx => fromHost_any (bs 0 : Int) wx
      rw [hK] at hF
      go_enter Tryz.func62, Tryz.ntmps62
      go_wp2_with (go_at_call 101; refine hD.mono ?_; rintro e w2 ⟨a2, c2, rfl, h2⟩)
      go_wp2_with (go_at_call 102; refine (hF _).mono ?_; rintro e w' ⟨rfl, hw⟩; have hw := hw.symm; subst hw)
      go_ret2
      exact ⟨_, rfl, Out.none_ ((Gr.below h2.out.2).trans (Gr.below ((Below.refl _ _).alloc (Nat.le_refl _) _))) (DV.below (DV.below HH.out.1 h2.out.2) ((Below.refl _ _).alloc (Nat.le_refl _) _))⟩
    · rw [if_neg hK]
      have hK' : hostK (bs 0 : Int) = true := by simpa using hK
      have hk5 : 1 ≤ bs 0 ∧ bs 0 ≤ 5 := by unfold hostK at hK'; simp at hK'; omega
      have hF := fun wx => fromHost_any (bs 0 : Int) wx
      rw [hK'] at hF
      have hT : ∀ (w2 : World) (a2 : Option Addr) (c2 : Nat), w2.ownsRow w.heap.size 5 1 (.slice a2 (len - 19) c2) (len - 19) (CB (fun i => bs (15 + i)) (len - 19)) → Below w.heap.size w w2 → ∀ wx, Below w2.heap.size w2 wx →
          Calls Tryz.prog 103 #[.pointer (some ⟨d, 0, none⟩), .agg #[.int .i64 (bs 0 : Nat), .int .u32 (w4v bs 1 : Nat), .int .u32 (w4v bs 5 : Nat), .int .u32 (w4v bs 9 : Nat), .int .i64 (bs 13 : Nat), .slice a2 (len - 19) c2]] wx fun e w' => ∃ v, e = .returned (.tuple #[v, .int .i64 (dtake P mx n s (bs 0) (w4v bs 5) (w4v bs 9) (bs 13) (len - 19) (fun i => bs (15 + i))).e]) ∧ Hid (Out U w w' d m g n mx P (dtake P mx n s (bs 0) (w4v bs 5) (w4v bs 9) (bs 13) (len - 19) (fun i => bs (15 + i))).s (dtake P mx n s (bs 0) (w4v bs 5) (w4v bs 9) (bs 13) (len - 19) (fun i => bs (15 + i))).f v) := by
        intro w2 a2 c2 ho2 hb2 wx hbx
        obtain ⟨h, hsn, hs, ho, hL, ht⟩ := HH.out
        have hr2 : Row8 w2 a2 (len - 19) c2 (fun i => bs (15 + i)) := own_slice8 ho2 (fun i hi => hby _ (by omega))
        have hbb : Below w.heap.size w wx := hb2.trans (hbx.mono hb2.size)
        refine (take_any d m g n mx P U s (bs 0) (w4v bs 1) (w4v bs 5) (w4v bs 9) (bs 13) a2 (len - 19) c2 _ wx (DV.below h hbb) (hr2.below hbx) (fun x hx => ?_) hk5 (by omega) hsn hs ho hL ht).mono ?_
        · have := own_far ho2 x hx
          exact ⟨Nat.lt_of_lt_of_le this.2 hbx.size, fun hm => by have := DV.ult h _ hm; omega⟩
        · rintro e w' ⟨v, rfl, h5⟩
          exact ⟨v, rfl, Out.pre (Gr.below hbb) h5.out⟩
      have HT : Hid (_) := hT
      have HX : Hid (_) := x
      clear hT x hby hk1 hf1 hk5 hE hK
      by_cases hC : w4v bs 1 = P.c
      · rw [if_neg (by omega)]
        generalize dtake P mx n s (bs 0) (w4v bs 5) (w4v bs 9) (bs 13) (len - 19) (fun i => bs (15 + i)) = R at *
        have hC1 : ((w4v bs 1 : Nat) : Int) = (P.c : Int) := by omega
        rw [hC1] at hD
        have HC : Hid (_) := hC
        clear hC hC1
        go_enter Tryz.func62, Tryz.ntmps62
        go_wp2_with (first | (go_at_call 101; refine hD.mono ?_; rintro e w2 ⟨a2, c2, rfl, h2⟩; have c0 := (HX.out.newd (Off.of_below h2.out.2)).cells.1; have hdl2 := (HX.out.newd (Off.of_below h2.out.2)).dlt; have hdn : ¬ d = w2.heap.size := (by omega); have hdn' : ¬ w2.heap.size = d := (by omega)) | (go_at_call 102; refine (hF _).mono ?_; rintro e w' ⟨rfl, hw⟩; have hw := hw.symm; subst hw))
        repeat (go_quiet (fail); go_wp2_with fail)
        have hQ := HT.out w2 a2 c2 h2.out.1 h2.out.2
        rw [HC.out] at hQ
        refine (hQ _ (below_drewN ((Below.refl _ _).alloc (Nat.le_refl _) _) _)).mono ?_
        rintro e w5 ⟨v, rfl, h5⟩
        clear hD hF hQ h2 c0
        go_wp2_with fail
        go_ret2
        exact ⟨v, rfl, h5⟩
      · rw [if_pos hC]
        have hC1 : (((w4v bs 1 : Nat) : Int) == (P.c : Int)) = false := by simp; omega
        have hC2 : (((w4v bs 1 : Nat) : Int) = (P.c : Int)) = False := by simp; omega
        clear hC HT
        go_enter Tryz.func62, Tryz.ntmps62
        go_wp2_with (first | (go_at_call 101; refine hD.mono ?_; rintro e w2 ⟨a2, c2, rfl, h2⟩; have c0 := (HX.out.newd (Off.of_below h2.out.2)).cells.1; have hdl2 := (HX.out.newd (Off.of_below h2.out.2)).dlt; have hdn : ¬ d = w2.heap.size := (by omega); have hdn' : ¬ w2.heap.size = d := (by omega)) | (go_at_call 102; refine (hF _).mono ?_; rintro e w' ⟨rfl, hw⟩; have hw := hw.symm; subst hw))
        repeat (go_quiet (fail); go_wp2_with fail)
        go_ret2
        have bb := below_drewN ((Below.refl w2.heap.size w2).alloc (Nat.le_refl _) (.cells #[.int .i64 (bs 0 : Nat), .int .u32 (w4v bs 1 : Nat), .int .u32 (w4v bs 5 : Nat), .int .u32 (w4v bs 9 : Nat), .int .i64 (bs 13 : Nat), .slice a2 (len - 19) c2] 57)) nq
        exact ⟨_, rfl, Out.none_ ((Gr.below h2.out.2).trans (Gr.below bb)) (DV.below (DV.below HH.out.1 h2.out.2) bb)⟩
  · have hD := decode_no a len cap bs w hr hE
    rw [if_pos hE]
    have HE : Hid (_) := And.intro h hE
    have e0 : (DE bs len == 0) = false := by simpa using hE
    have e0' : (DE bs len = 0) = False := by simpa using hE
    clear h hr hE hs ho hL ht hsn
    generalize DE bs len = E at *
    go_enter Tryz.func62, Tryz.ntmps62
    go_wp2_with (go_at_call 101; refine hD.mono ?_; rintro e w2 ⟨rfl, b2⟩)
    go_ret2
    exact ⟨_, rfl, Out.none_ ((Gr.below b2).trans (Gr.below ((Below.refl _ _).alloc (Nat.le_refl _) _))) (DV.below (DV.below HE.out.1 b2) ((Below.refl _ _).alloc (Nat.le_refl _) _))⟩
theorem receive_nil (a : Option Addr) (len cap : Nat) (w : World) : Calls Tryz.prog 25 #[.pointer none, .slice a len cap] w fun e w' => e = .returned (.tuple #[.slice none 0 0, .int .i64 1]) ∧ w' = w := by
  have q := silent_nil w
  go_enter Tryz.func25, Tryz.ntmps25
  go_wp2_with (go_at_call 61; refine q.mono ?_; rintro e w' ⟨rfl, hw⟩; have hw := hw.symm; subst hw)
  go_ret2
  exact ⟨rfl, rfl⟩
set_option maxHeartbeats 3200000 in
theorem receive_any (d m g n mx : Nat) (P : Pm) (U : List Nat) (s : Sd) (a : Option Addr) (len cap : Nat) (bs : Nat → Nat) (w : World) (h : DV w d m g n mx P U s) (hr : Row8 w a len cap bs) (hsn : s.sn + 1 < 4294967296) (ho : s.od < 4) (hL : s.L.length < 800000) (ht : s.ms.t < 9223372036854774000) :
    Calls Tryz.prog 25 #[.pointer (some ⟨d, 0, none⟩), .slice a len cap] w fun e w' => ∃ v, e = .returned (.tuple #[v, .int .i64 (drecv P mx n s len bs).e]) ∧ Hid (Out U w w' d m g n mx P (drecv P mx n s len bs).s (drecv P mx n s len bs).f v) := by
  obtain ⟨B, x⟩ := id h
  have c11 := x.cells.2.2.2.2.2.2.2.2.2.2.2.1
  unfold drecv
  by_cases h6 : s.st = 6
  · rw [if_pos h6]
    rw [h6] at c11
    have q := silent_down d w c11
    have H : Hid (_) := h
    clear h x hr hsn ho hL ht c11
    go_enter Tryz.func25, Tryz.ntmps25
    go_wp2_with (go_at_call 61; refine q.mono ?_; rintro e w' ⟨rfl, hw⟩; have hw := hw.symm; subst hw)
    go_ret2
    exact ⟨_, rfl, Out.none_ (Gr.refl _ _) H.out⟩
  · rw [if_neg h6]
    have q := silent_up d s.st w c11 h6
    have hH := hear_any d m g n mx P U s a len cap bs w h hr hsn h6 ho hL ht
    have hre := dhear_e P mx n s len bs
    have hrl := dhear_len P mx n s len bs
    generalize dhear P mx n s len bs = R at *
    have HL : Hid (R.s.L.length < 900000) := (by show _ < _; omega)
    have HE : Hid (_) := hre
    clear h x hr hsn ho hL ht c11 h6 hrl hre
    by_cases he : R.e ≠ 0 ∧ R.e ≠ 70
    · rw [if_pos he]
      have e0 : (R.e != 0) = true := by simpa using he.1
      have e7 : (R.e != 70) = true := by simpa using he.2
      have hw : (Lit.int .i64 R.e).wf = true := wf_small R.e HE.out.1 HE.out.2
      have hN : ∀ U2 w2, DV w2 d m g n mx P U2 R.s → Calls Tryz.prog 63 #[.pointer (some ⟨d, 0, none⟩), .int .i64 R.e] w2 fun e w' => e = .returned (.tuple #[]) ∧ Hid (∃ U', Gr U2 w2 U' w' ∧ DV w' d m g n mx P U' (dnote R.s R.e)) := fun U2 w2 h2 => dvnote_any d m g n mx P U2 R.s R.e w2 h2 he.1 hw HL.out
      have HN : Hid (_) := hN
      clear hN hw he
      go_enter Tryz.func25, Tryz.ntmps25
      go_wp2_with (first | (go_at_call 61; refine q.mono ?_; rintro e w' ⟨rfl, hw⟩; have hw := hw.symm; subst hw) | (go_at_call 62; refine hH.mono ?_; rintro e w2 ⟨v, rfl, h2⟩))
      obtain ⟨U2, g2, x2, f2, k2⟩ := h2.out
      refine (HN.out U2 w2 x2).mono ?_
      rintro e w3 ⟨rfl, h3⟩
      obtain ⟨U3, g3, x3⟩ := h3.out
      have H3 : Hid (_) := Out.next g2 f2 k2 g3 x3
      clear hH q h2 g2 x2 f2 k2 h3 g3 x3 HN
      go_wp2_with fail
      go_ret2
      exact ⟨v, rfl, H3⟩
    · rw [if_neg he]
      have he' : R.e = 0 ∨ R.e = 70 := by omega
      clear he
      rcases he' with he | he
      all_goals
        rw [he] at hH ⊢
        go_enter Tryz.func25, Tryz.ntmps25
        go_wp2_with (first | (go_at_call 61; refine q.mono ?_; rintro e w' ⟨rfl, hw⟩; have hw := hw.symm; subst hw) | (go_at_call 62; refine hH.mono ?_; rintro e w2 ⟨v, rfl, h2⟩))
        go_ret2
        exact ⟨v, rfl, h2⟩

end Go.Proofs.YtmleiemlfogffaaGreat
