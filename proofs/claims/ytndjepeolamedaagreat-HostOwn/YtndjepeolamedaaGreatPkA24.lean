/- Part 25 of the texts on which the proofs of layer 13 rest: contracts of Go functions. -/
import Derived.Test.YtndjepeolamedaaGreatPkA21
import Derived.Test.YtndjepeolamedaaGreatPkA22
import Derived.Test.YtndjepeolamedaaGreatPkA23
namespace Go.Proofs.YtndjepeolamedaaGreat
set_option maxRecDepth 100000
open Go.RowKit
def hunE (P : Pm) (s : Sh) (k ss num len : Nat) (bs : Nat → Nat) : Int := if s.st = 1 then hoffE P s k ss len bs else hunitE P s k ss num len
theorem hunE_rng (P : Pm) (s : Sh) (k ss num len : Nat) (bs : Nat → Nat) : hunE P s k ss num len bs = 0 ∨ hunE P s k ss num len bs = 91 ∨ hunE P s k ss num len bs = 130 := by
  unfold hunE hoffE hunitE
  repeat' split
  all_goals simp
theorem hrunit_any (d : Nat) (P : Pm) (U : List Nat) (s : Sh) (k c ss num fl : Nat) (a : Option Addr) (len cap : Nat) (bs : Nat → Nat) (w : World) (h : RVh w d P U s) (hr : Row8 w a len cap bs) (ha : ∀ x, a = some x → x.block < w.heap.size ∧ x.block ∉ U) (hL : s.L.length < 800000) :
    Calls Tryz.prog 104 #[.pointer (some ⟨d, 0, none⟩), .agg #[.int .i64 (k : Nat), .int .u32 (c : Nat), .int .u32 (ss : Nat), .int .u32 (num : Nat), .int .i64 (fl : Nat), .slice a len cap]] w fun e w' => e = .returned (.int .i64 (hunE P s k ss num len bs)) ∧ Hid (∃ U', Gr U w U' w' ∧ RVh w' d P U' (if hunE P s k ss num len bs = 0 then htake s k ss num fl bs else s)) := by
  unfold hunE
  by_cases h1 : s.st = 1
  · rw [if_pos h1]
    exact hunitI_any d P U s k c ss num fl a len cap bs w h hr h1
  · rw [if_neg h1]
    exact hunitB_any d P U s k c ss num fl a len cap bs w h hr ha h1 hL
set_option maxRecDepth 100000 in
set_option maxHeartbeats 3200000 in
theorem hrreceive_any (d : Nat) (P : Pm) (U : List Nat) (s : Sh) (a : Option Addr) (len cap : Nat) (bs : Nat → Nat) (w : World) (h : RVh w d P U s) (hr : Row8 w a len cap bs) (hL : s.L.length < 800000) :
    Calls Tryz.prog 46 #[.pointer (some ⟨d, 0, none⟩), .slice a len cap] w fun e w' => e = .returned (.int .i64 (hrecvE P s len bs)) ∧ Hid (∃ U', Gr U w U' w' ∧ RVh w' d P U' (hrecvS P s len bs)) := by
  obtain ⟨B, x⟩ := id h
  have hN : ∀ (E : Int) wx, Below w.heap.size w wx → Calls Tryz.prog 61 #[.pointer (some ⟨d, 5, none⟩), .int .i64 E, .int .u32 (s.ss : Nat), .int .u32 (s.nm : Nat)] wx fun e w' => ∃ r, e = .returned (.int .i64 r) ∧ Hid (∃ U', Gr U w U' w' ∧ RVh w' d P U' (hnote s E)) := by
    intro E wx hb
    refine (hrnotev_any d P U s B E wx (x.newd (Off.of_below hb)) (by omega)).mono ?_
    rintro e w' ⟨rfl, h5⟩
    obtain ⟨U5, B5, g5, x5⟩ := h5.out
    exact ⟨_, rfl, U5, (Gr.below hb).trans g5, B5, x5⟩
  have hS : hrecvS P s len bs = if hrecvE P s len bs ≠ 0 then hnote s (hrecvE P s len bs) else htake s (bs 0) (w4v bs 5) (w4v bs 9) (bs 13) (fun i => bs (15 + i)) := rfl
  by_cases hE : DE bs len = 0
  · have hD := refDec_ok a len cap bs w hr hE
    have hby : ∀ i, i < len → bs i < 256 := hr.byte
    have hR : hrecvE P s len bs = hrefE P s (bs 0) (w4v bs 1) (w4v bs 5) (w4v bs 9) (len - 19) (fun i => bs (15 + i)) := if_neg (by omega)
    have HH : Hid (_) := And.intro h hL
    have HX : Hid (_) := x
    have hF := fun wx => refDevice_any (bs 0 : Int) wx
    by_cases hK : devK (bs 0 : Int) = false
    · have e43 : hrecvE P s len bs = 43 := by rw [hR]; exact if_pos hK
      rw [hS, e43, if_pos (by omega)]
      rw [hK] at hF
      clear h hr hL x hE hK hby hR e43 hS HH
      go_enter Tryz.func46, Tryz.ntmps46
      go_wp2_with (first | (go_at_call 30; refine hD.mono ?_; rintro e w2 ⟨a2, c2, rfl, h2⟩; have x2 := HX.out.newd (Off.of_below h2.out.2); have c16 : w2.cell? ⟨d, 16, none⟩ = some (.int .u32 (s.ss : Nat)) := cell_of_row w2 d 16 _ _ _ x2.dev; have c17 : w2.cell? ⟨d, 17, none⟩ = some (.int .u32 (s.nm : Nat)) := cell_of_row w2 d 17 _ _ _ x2.dev; have hdl2 := x2.dlt; have hdn : ¬ d = w2.heap.size := (by omega); have hdn' : ¬ w2.heap.size = d := (by omega); have HB : Hid (_) := h2.out.2.trans (((Below.refl w2.heap.size w2).alloc (Nat.le_refl _) (.cells #[.int .i64 (bs 0 : Nat), .int .u32 (w4v bs 1 : Nat), .int .u32 (w4v bs 5 : Nat), .int .u32 (w4v bs 9 : Nat), .int .i64 (bs 13 : Nat), .slice a2 (len - 19) c2] 67)).mono h2.out.2.size); clear h2 x2) | (go_at_call 103; refine (hF _).mono ?_; rintro e w' ⟨rfl, hw⟩; have hw := hw.symm; subst hw))
      repeat (go_quiet (fail); go_wp2_with fail)
      go_region_with (go_at_call 61; refine (hN 43 _ (by repeat (first | exact HB.out | refine below_drewN ?_ _ | refine Below.drew ?_))).mono ?_; rintro e w5 ⟨r, rfl, h5⟩)
      all_goals
        go_wp2_with fail
        go_ret
        exact ⟨rfl, h5⟩
    · have hK' : devK (bs 0 : Int) = true := by simpa using hK
      rw [hK'] at hF
      by_cases hC : w4v bs 1 = P.c
      · have hU : hrecvE P s len bs = hunE P s (bs 0) (w4v bs 5) (w4v bs 9) (len - 19) (fun i => bs (15 + i)) := by
          rw [hR]
          unfold hrefE
          rw [if_neg hK, if_neg (by omega)]
          rfl
        rw [hS, hU]
        have hT : ∀ (w2 : World) (a2 : Option Addr) (c2 : Nat), w2.ownsRow w.heap.size 5 1 (.slice a2 (len - 19) c2) (len - 19) (CB (fun i => bs (15 + i)) (len - 19)) → Below w.heap.size w w2 → ∀ wx, Below w2.heap.size w2 wx →
            Calls Tryz.prog 104 #[.pointer (some ⟨d, 0, none⟩), .agg #[.int .i64 (bs 0 : Nat), .int .u32 (P.c : Nat), .int .u32 (w4v bs 5 : Nat), .int .u32 (w4v bs 9 : Nat), .int .i64 (bs 13 : Nat), .slice a2 (len - 19) c2]] wx fun e w' => e = .returned (.int .i64 (hunE P s (bs 0) (w4v bs 5) (w4v bs 9) (len - 19) (fun i => bs (15 + i)))) ∧ Hid (∃ U', Gr U w U' w' ∧ RVh w' d P U' (if hunE P s (bs 0) (w4v bs 5) (w4v bs 9) (len - 19) (fun i => bs (15 + i)) = 0 then htake s (bs 0) (w4v bs 5) (w4v bs 9) (bs 13) (fun i => bs (15 + i)) else s)) := by
          intro w2 a2 c2 ho2 hb2 wx hbx
          have hr2 : Row8 w2 a2 (len - 19) c2 (fun i => bs (15 + i)) := own_slice8 ho2 (fun i hi => hby _ (by omega))
          have hbb : Below w.heap.size w wx := hb2.trans (hbx.mono hb2.size)
          refine (hrunit_any d P U s (bs 0) P.c (w4v bs 5) (w4v bs 9) (bs 13) a2 (len - 19) c2 _ wx (RVh.below h hbb) (hr2.below hbx) (fun x hx => ?_) hL).mono ?_
          · have := own_far ho2 x hx
            exact ⟨Nat.lt_of_lt_of_le this.2 hbx.size, fun hm => by have := RVh.ult h _ hm; omega⟩
          · rintro e w' ⟨rfl, h5⟩
            obtain ⟨U5, g5, x5⟩ := h5.out
            exact ⟨rfl, U5, (Gr.below hbb).trans g5, x5⟩
        have hrg := hunE_rng P s (bs 0) (w4v bs 5) (w4v bs 9) (len - 19) (fun i => bs (15 + i))
        generalize hunE P s (bs 0) (w4v bs 5) (w4v bs 9) (len - 19) (fun i => bs (15 + i)) = E at *
        have HT : Hid (_) := hT
        have hC1 : ((w4v bs 1 : Nat) : Int) = (P.c : Int) := by omega
        rw [hC1] at hD
        have hLL : Hid (_) := hL
        clear h hr hL x hE hK hK' hby hR hS hU hT hC hC1 hN
        by_cases he : E = 0
        · subst he
          rw [if_neg (by simp)]
          go_enter Tryz.func46, Tryz.ntmps46
          go_wp2_with (first | (go_at_call 30; refine hD.mono ?_; rintro e w2 ⟨a2, c2, rfl, h2⟩; have x2 := HX.out.newd (Off.of_below h2.out.2); have c0 : w2.cell? ⟨d, 0, none⟩ = some (.int .u32 (P.c : Nat)) := cell_of_row w2 d 0 _ _ _ x2.dev; have hdl2 := x2.dlt; have hdn : ¬ d = w2.heap.size := (by omega); have hdn' : ¬ w2.heap.size = d := (by omega); clear x2) | (go_at_call 103; refine (hF _).mono ?_; rintro e w' ⟨rfl, hw⟩; have hw := hw.symm; subst hw))
          repeat (go_quiet (fail); go_wp2_with fail)
          refine (HT.out w2 a2 c2 h2.out.1 h2.out.2 _ (below_drewN ((Below.refl _ _).alloc (Nat.le_refl _) _) _)).mono ?_
          rintro e w5 ⟨rfl, h5⟩
          clear hD hF h2 c0 hdl2 hdn hdn'
          go_wp2_with fail
          go_ret
          exact ⟨rfl, h5⟩
        · rw [if_pos he]
          have e0 : (E != 0) = true := by simpa using he
          have HE : Hid (_) := he
          clear hrg he
          go_enter Tryz.func46, Tryz.ntmps46
          go_wp2_with (first | (go_at_call 30; refine hD.mono ?_; rintro e w2 ⟨a2, c2, rfl, h2⟩; have x2 := HX.out.newd (Off.of_below h2.out.2); have c0 : w2.cell? ⟨d, 0, none⟩ = some (.int .u32 (P.c : Nat)) := cell_of_row w2 d 0 _ _ _ x2.dev; have hdl2 := x2.dlt; have hdn : ¬ d = w2.heap.size := (by omega); have hdn' : ¬ w2.heap.size = d := (by omega); clear x2) | (go_at_call 103; refine (hF _).mono ?_; rintro e w' ⟨rfl, hw⟩; have hw := hw.symm; subst hw))
          repeat (go_quiet (fail); go_wp2_with fail)
          refine (HT.out w2 a2 c2 h2.out.1 h2.out.2 _ (below_drewN ((Below.refl _ _).alloc (Nat.le_refl _) _) _)).mono ?_
          rintro e w5 ⟨rfl, h5⟩
          obtain ⟨U5, g5, y5⟩ := h5.out
          rw [if_neg HE.out] at y5
          obtain ⟨B5, x5⟩ := y5
          have c16 : w5.cell? ⟨d, 16, none⟩ = some (.int .u32 (s.ss : Nat)) := cell_of_row w5 d 16 _ _ _ x5.dev
          have c17 : w5.cell? ⟨d, 17, none⟩ = some (.int .u32 (s.nm : Nat)) := cell_of_row w5 d 17 _ _ _ x5.dev
          have hM := hrnotev_any d P U5 s B5 E w5.drew (x5.newd (Off.drew [] w5)) (by have := hLL.out; omega)
          have H5 : Hid (_) := g5
          clear hD hF h2 c0 h5 g5 x5 hdl2 hdn hdn'
          go_wp2_with fail
          go_region_with (go_at_call 61; refine hM.mono ?_; rintro e w6 ⟨rfl, h6⟩)
          all_goals
            go_wp2_with fail
            go_ret
            obtain ⟨U6, B6, g6, x6⟩ := h6.out
            exact ⟨rfl, U6, (H5.out.trans (Gr.same (Off.drew [] w5) (by simp))).trans g6, B6, x6⟩
      · have e44 : hrecvE P s len bs = 44 := by
          rw [hR]
          unfold hrefE
          rw [if_neg hK, if_pos hC]
        rw [hS, e44, if_pos (by omega)]
        have hC1 : (((w4v bs 1 : Nat) : Int) != (P.c : Int)) = true := by simp; omega
        clear h hr hL x hE hK hK' hby hR e44 hS HH hC
        go_enter Tryz.func46, Tryz.ntmps46
        go_wp2_with (first | (go_at_call 30; refine hD.mono ?_; rintro e w2 ⟨a2, c2, rfl, h2⟩; have x2 := HX.out.newd (Off.of_below h2.out.2); have c0 : w2.cell? ⟨d, 0, none⟩ = some (.int .u32 (P.c : Nat)) := cell_of_row w2 d 0 _ _ _ x2.dev; have c16 : w2.cell? ⟨d, 16, none⟩ = some (.int .u32 (s.ss : Nat)) := cell_of_row w2 d 16 _ _ _ x2.dev; have c17 : w2.cell? ⟨d, 17, none⟩ = some (.int .u32 (s.nm : Nat)) := cell_of_row w2 d 17 _ _ _ x2.dev; have hdl2 := x2.dlt; have hdn : ¬ d = w2.heap.size := (by omega); have hdn' : ¬ w2.heap.size = d := (by omega); have HB : Hid (_) := h2.out.2.trans (((Below.refl w2.heap.size w2).alloc (Nat.le_refl _) (.cells #[.int .i64 (bs 0 : Nat), .int .u32 (w4v bs 1 : Nat), .int .u32 (w4v bs 5 : Nat), .int .u32 (w4v bs 9 : Nat), .int .i64 (bs 13 : Nat), .slice a2 (len - 19) c2] 67)).mono h2.out.2.size); clear h2 x2) | (go_at_call 103; refine (hF _).mono ?_; rintro e w' ⟨rfl, hw⟩; have hw := hw.symm; subst hw))
        repeat (go_quiet (fail); go_wp2_with fail)
        go_region_with (go_at_call 61; refine (hN 44 _ (by repeat (first | exact HB.out | refine below_drewN ?_ _ | refine Below.drew ?_))).mono ?_; rintro e w5 ⟨r, rfl, h5⟩)
        all_goals
          go_wp2_with fail
          go_ret
          exact ⟨rfl, h5⟩
  · have hD := refDec_no a len cap bs w hr hE
    have hU : hrecvE P s len bs = DE bs len := if_pos hE
    rw [hS, hU, if_pos hE]
    have e0 : (DE bs len == 0) = false := by simpa using hE
    have e0' : (DE bs len = 0) = False := by simpa using hE
    have e1 : (DE bs len != 0) = true := by simpa using hE
    generalize DE bs len = E at *
    have HX : Hid (_) := x
    clear h x hr hE hL hS hU
    go_enter Tryz.func46, Tryz.ntmps46
    go_wp2_with (go_at_call 30; refine hD.mono ?_; rintro e w2 ⟨rfl, b2⟩; have x2 := HX.out.newd (Off.of_below b2); have c16 : w2.cell? ⟨d, 16, none⟩ = some (.int .u32 (s.ss : Nat)) := cell_of_row w2 d 16 _ _ _ x2.dev; have c17 : w2.cell? ⟨d, 17, none⟩ = some (.int .u32 (s.nm : Nat)) := cell_of_row w2 d 17 _ _ _ x2.dev; have hdl2 := x2.dlt; have hdn : ¬ d = w2.heap.size := (by omega); have hdn' : ¬ w2.heap.size = d := (by omega); have HB : Hid (_) := b2.trans (((Below.refl w2.heap.size w2).alloc (Nat.le_refl _) (.cells #[.int .i64 0, .int .u32 0, .int .u32 0, .int .u32 0, .int .i64 0, .slice none 0 0] 67)).mono b2.size); clear b2 x2)
    repeat (go_quiet (fail); go_wp2_with fail)
    go_region_with (go_at_call 61; refine (hN E _ (by repeat (first | exact HB.out | refine below_drewN ?_ _ | refine Below.drew ?_))).mono ?_; rintro e w5 ⟨r, rfl, h5⟩)
    all_goals
      go_wp2_with fail
      go_ret
      exact ⟨rfl, h5⟩
end Go.Proofs.YtndjepeolamedaaGreat
