/- Part 39 of the texts on which the proofs of layer 13 rest: contracts of Go functions. -/
import Derived.Test.YtndjepeolamedaaGreatPkA16
import Derived.Test.YtndjepeolamedaaGreatPkA36
import Derived.Test.YtndjepeolamedaaGreatPkA37
namespace Go.Proofs.YtndjepeolamedaaGreat
set_option maxRecDepth 100000
open Go.RowKit
theorem hsend_new (P : Pm) : hsendE hnew = 0 ∧ hsendF P hnew = encF 1 P.c 0 0 0 4 (dsg P) ∧ (hsendS P hnew).st = 1 := ⟨rfl, rfl, rfl⟩
theorem hseeS_any (d : Nat) (P : Pm) (U : List Nat) (s : Sh) (w : World) (h : HV w d P U s) :
    Calls Tryz.prog 36 #[.pointer (some ⟨d, 0, none⟩)] w fun e w' => ∃ a cap, e = .returned (.agg #[.int .i64 (s.st : Nat), .int .u32 (s.ss : Nat), .int .u32 (s.nm : Nat), .int .u32 (s.sn : Nat), .int .i64 (s.dc : Nat), .int .i64 s.v.lat, .bool (vreq s.v), .bool (von s.v), .slice a P.i cap]) ∧ Hid (Fr w' w.heap.size (.slice a P.i cap) (P.i, vout s.v) ∧ Row8 w' a P.i cap (vout s.v) ∧ Below w.heap.size w w') := by
  obtain ⟨B, x⟩ := id h
  refine (hsee_any d P U s w h).mono ?_
  rintro e w' ⟨v, rfl, h2⟩
  obtain ⟨a, cap, hv, r⟩ := h2.out.1.row (vout_byte x.val)
  subst hv
  exact ⟨a, cap, rfl, h2.out.1, r, h2.out.2⟩
set_option maxHeartbeats 6400000 in
theorem awake14 (w : World) : Calls Tryz.prog 31 #[] w fun e w' => e = .returned (.bool true) ∧ Below w.heap.size w w' := by
  go_enter Tryz.func31, Tryz.ntmps31
  go_wp2_with fail
  refine (small_any w).mono ?_
  rintro e w1 ⟨rfl, b1⟩
  have hN := newH_any P0 P0_ok w1
  have H1 : Hid (_) := b1
  clear b1
  go_wp2_with fail
  refine hN.mono ?_
  rintro e w2 ⟨d, rfl, h2⟩
  obtain ⟨b2, U, v2, hU⟩ := h2.out
  have hS := hsend_any d P0 U hnew w2 v2 (by decide) (by decide) (fun e => absurd e (by decide)) (by decide)
  obtain ⟨f1, f2, f3⟩ := hsend_new P0
  rw [f1, f2] at hS
  have H2 : Hid (_) := And.intro (H1.out.trans (b2.mono H1.out.size)) (And.intro (fun k hk => Nat.le_trans H1.out.size (hU k hk)) f3)
  generalize hsendS P0 hnew = S2 at *
  clear hN h2 b2 v2 hU f1 f2 f3 H1
  go_wp2_with fail
  refine hS.mono ?_
  rintro e w3 ⟨v3, rfl, h3⟩
  obtain ⟨U3, g3, x3, F3, k3⟩ := h3.out
  obtain ⟨b2, hU, hst⟩ := H2.out
  have b3 : Below w.heap.size w w3 := g3.off.below b2 hU b2.size
  have hE : LW 1 7 0 0 0 4 4 = 0 := by decide
  obtain ⟨e1, e2, e3, e4, e5, e6, e7⟩ := DE_back 1 7 0 0 0 4 (dsg P0) (by omega) (by omega) (by omega) (by omega) hE
  have ef : encF 1 P0.c 0 0 0 4 (dsg P0) = (23, PM.sl (fr 1 7 0 0 0 4 (dsg P0)) 19) := if_pos hE
  rw [ef] at F3
  obtain ⟨a3, c3, hv3, r3⟩ := F3.row (by rw [← ef]; exact encF_byte _ _ _ _ _ _ _ (dsg_byte P0))
  replace hv3 : v3 = Value.slice a3 23 c3 := hv3
  subst hv3
  have hDc := refDec_ok a3 23 c3 (PM.sl (fr 1 7 0 0 0 4 (dsg P0)) 19) w3 r3 e1
  rw [show PM.sl (fr 1 7 0 0 0 4 (dsg P0)) 19 0 = 1 from e2, show w4v (PM.sl (fr 1 7 0 0 0 4 (dsg P0)) 19) 1 = 7 from e3] at hDc
  have H3 : Hid (_) := And.intro b3 (And.intro x3 hst)
  clear hS h3 g3 x3 F3 k3 b2 hU hst b3 hE e1 e2 e3 e4 e5 e6 e7 ef r3 H2
  generalize PM.sl (fr 1 7 0 0 0 4 (dsg P0)) 19 = B at *
  go_wp2_with fail
  refine hDc.mono ?_
  rintro e w4 ⟨a4, c4, rfl, h4⟩
  have b4 : Below w3.heap.size w3 (w4.alloc (.cells #[.int .i64 1, .int .u32 7, .int .u32 (w4v B 5 : Nat), .int .u32 (w4v B 9 : Nat), .int .i64 (B 13 : Nat), .slice a4 4 c4] 67)) := h4.out.2.alloc h4.out.2.size _
  have hSee := hseeS_any d P0 U3 S2 _ (HV.below H3.out.2.1 b4)
  have H4 : Hid (_) := And.intro (H3.out.1.trans (b4.mono H3.out.1.size)) H3.out.2.2
  clear hDc h4 b4 H3
  go_wp2_with fail
  refine hSee.mono ?_
  rintro e w5 ⟨a5, c5, rfl, h5⟩
  have H5 : Hid (_) := H4.out.1.trans (h5.out.2.2.mono H4.out.1.size)
  have hst := H4.out.2
  rw [hst]
  clear hSee h5 H4 hst
  have hfl : ∀ w, (Instr.field 57 (.agg #[.int .i64 1, .int .u32 (S2.ss : Nat), .int .u32 (S2.nm : Nat), .int .u32 (S2.sn : Nat), .int .i64 (S2.dc : Nat), .int .i64 S2.v.lat, .bool (vreq S2.v), .bool (von S2.v), .slice a5 P0.i c5]) 0).run Tryz.prog w = .ok (.int .i64 1) w := fun w => by kernel_rfl
  go_wp2_with fail
  go_ret
  exact ⟨rfl, H5.out⟩
end Go.Proofs.YtndjepeolamedaaGreat
namespace Go.Proofs.YtndjepeolamedaaGreat
set_option maxRecDepth 100000
open Go.RowKit
set_option maxHeartbeats 6400000 in
theorem hrefusal_any (d : Nat) (P : Pm) (U : List Nat) (s : Sh) (k c ss num fl : Nat) (a : Option Addr) (len cap : Nat) (bs : Nat → Nat) (w : World) (h : HV w d P U s) (hr : Row8 w a len cap bs) :
    Calls Tryz.prog 100 #[.pointer (some ⟨d, 0, none⟩), .agg #[.int .i64 (k : Nat), .int .u32 (c : Nat), .int .u32 (ss : Nat), .int .u32 (num : Nat), .int .i64 (fl : Nat), .slice a len cap]] w fun e w' => e = .returned (.int .i64 (hrefE P s k c ss num len bs)) ∧ Below w.heap.size w w' := by
  have hb : ∀ ob, Below w.heap.size w (w.alloc ob) := fun ob => (Below.refl _ _).alloc (Nat.le_refl _) _
  have hU : w.heap.size ∉ U := fun hm => by have := HV.ult h _ hm; omega
  have hO := fun wx (hx : Below w.heap.size w wx) => hoffer_any d P U s k c ss num fl a len cap bs wx (HV.below h hx) (hr.below hx)
  have hW := fun wx (hx : Below w.heap.size w wx) => hawaits_any d P U s k c ss num fl a len cap wx (HV.below h hx)
  have hF := fun wx => fromDevice_any (k : Int) wx
  obtain ⟨B, x⟩ := h
  have hdn : ¬ d = w.heap.size := fun e => hU (by rw [← e]; exact x.kd.2)
  have hdn' : ¬ w.heap.size = d := fun e => hdn e.symm
  have c0 : ∀ ob, (w.alloc ob).cell? ⟨d, 0, none⟩ = some (.int .u32 (P.c : Nat)) := fun ob => (x.newd (Off.of_below (hb ob))).c0
  have c8 : ∀ ob, (w.alloc ob).cell? ⟨d, 8, none⟩ = some (.int .i64 (s.st : Nat)) := fun ob => (x.newd (Off.of_below (hb ob))).c8
  have c9 : ∀ ob, (w.alloc ob).cell? ⟨d, 9, none⟩ = some (.int .u32 (s.ss : Nat)) := fun ob => (x.newd (Off.of_below (hb ob))).c9
  have HB : Hid (_) := hb
  have HO : Hid (_) := hO
  have HW : Hid (_) := hW
  clear hb x hU hr hO hW
  unfold hrefE
  by_cases hK : devK (k : Int) = false
  · rw [if_pos hK]
    rw [hK] at hF
    go_enter Tryz.func100, Tryz.ntmps100
    go_wp2_with (go_at_call 159; refine (hF _).mono ?_; rintro e w' ⟨rfl, hw⟩; have hw := hw.symm; subst hw)
    go_ret
    exact ⟨rfl, HB.out _⟩
  · rw [if_neg hK]
    have hK' : devK (k : Int) = true := by simpa using hK
    rw [hK'] at hF
    clear hK hK'
    by_cases hC : c = P.c
    · subst hC
      rw [if_neg (by omega)]
      by_cases h1 : s.st = 1
      · rw [if_pos h1]
        rw [h1] at c8
        generalize hoffE P s k ss len bs = E at *
        clear h1
        go_enter Tryz.func100, Tryz.ntmps100
        go_wp2_with (go_at_call 159; refine (hF _).mono ?_; rintro e w' ⟨rfl, hw⟩; have hw := hw.symm; subst hw)
        go_quiet (fail)
        go_wp2_with fail
        have HB2 : Hid (∀ ob, Below w.heap.size w ((w.alloc ob).drewN nq)) := fun ob => below_drewN (HB.out ob) nq
        refine (HO.out _ (HB2.out _)).mono ?_
        rintro e w3 ⟨rfl, b3⟩
        have H3 : Hid (Below w.heap.size w w3) := (HB2.out _).trans (b3.mono (HB2.out _).size)
        clear b3 HB HB2 HO HW c0 c8 c9 hF
        go_wp2_with fail
        go_ret
        exact ⟨rfl, H3.out⟩
      · rw [if_neg h1]
        have n1 : ((s.st : Int) == 1) = false := by simp; omega
        clear h1 HO
        by_cases hS : ss = s.ss
        · subst hS
          cases hw : hawaits P s k num len
          all_goals
            first | rw [if_pos (.inr rfl)] | rw [if_neg (by simp)]
            rw [hw] at HW
            go_enter Tryz.func100, Tryz.ntmps100
            go_wp2_with (go_at_call 159; refine (hF _).mono ?_; rintro e w' ⟨rfl, hw⟩; have hw := hw.symm; subst hw)
            go_quiet (fail)
            go_wp2_with fail
            have HB2 : Hid (∀ ob, Below w.heap.size w (((w.alloc ob).drewN nq).drew)) := fun ob => Below.drew (below_drewN (HB.out ob) nq)
            go_region_with (go_at_call 161; refine (HW.out _ (HB2.out _)).mono ?_; rintro e w3 ⟨rfl, b3⟩)
            all_goals
              have H3 : Hid (Below w.heap.size w w3) := (HB2.out _).trans (b3.mono (HB2.out _).size)
              clear b3 HB HB2 HW c0 c8 c9 hF
              go_wp2_with fail
              go_ret
              exact ⟨rfl, H3.out⟩
        · rw [if_pos (.inl hS)]
          have j2 : ((ss : Int) != (s.ss : Int)) = true := by simp; omega
          clear HW
          go_enter Tryz.func100, Tryz.ntmps100
          go_wp2_with (go_at_call 159; refine (hF _).mono ?_; rintro e w' ⟨rfl, hw⟩; have hw := hw.symm; subst hw)
          repeat (go_quiet (fail); go_wp2_with fail)
          go_ret
          refine ⟨rfl, ?_⟩
          repeat (first | with_reducible refine below_drewN ?_ _ | with_reducible refine Below.drew ?_ | exact HB.out _)
    · rw [if_pos hC]
      have j1 : ((c : Int) != (P.c : Int)) = true := by simp; omega
      clear HO HW
      go_enter Tryz.func100, Tryz.ntmps100
      go_wp2_with (go_at_call 159; refine (hF _).mono ?_; rintro e w' ⟨rfl, hw⟩; have hw := hw.symm; subst hw)
      go_quiet (fail)
      go_wp2_with fail
      go_ret
      refine ⟨rfl, ?_⟩
      repeat (first | with_reducible refine below_drewN ?_ _ | with_reducible refine Below.drew ?_ | exact HB.out _)
end Go.Proofs.YtndjepeolamedaaGreat
namespace Go.Proofs.YtndjepeolamedaaGreat
set_option maxRecDepth 100000
open Go.RowKit
set_option maxHeartbeats 6400000 in
theorem htake17_any (d : Nat) (P : Pm) (U : List Nat) (s : Sh) (c ss num fl : Nat) (a : Option Addr) (len cap : Nat) (bs : Nat → Nat) (w : World) (h : HV w d P U s) :
    Calls Tryz.prog 102 #[.pointer (some ⟨d, 0, none⟩), .agg #[.int .i64 17, .int .u32 (c : Nat), .int .u32 (ss : Nat), .int .u32 (num : Nat), .int .i64 (fl : Nat), .slice a len cap]] w fun e w' => e = .returned (.tuple #[]) ∧ Hid (∃ U', Gr U w U' w' ∧ HV w' d P U' (htake s 17 ss num fl bs)) := by
  have hb0 : Below w.heap.size w (w.alloc (.cells #[.int .i64 17, .int .u32 (c : Nat), .int .u32 (ss : Nat), .int .u32 (num : Nat), .int .i64 (fl : Nat), .slice a len cap] 67)) := (Below.refl _ _).alloc (Nat.le_refl _) _
  have hx0 := heap_alloc_new w (.cells #[.int .i64 17, .int .u32 (c : Nat), .int .u32 (ss : Nat), .int .u32 (num : Nat), .int .i64 (fl : Nat), .slice a len cap] 67)
  have hs0 : w.heap.size < (w.alloc (.cells #[.int .i64 17, .int .u32 (c : Nat), .int .u32 (ss : Nat), .int .u32 (num : Nat), .int .i64 (fl : Nat), .slice a len cap] 67)).heap.size := by rw [World.size_alloc]; omega
  have hU : w.heap.size ∉ U := fun hm => by have := HV.ult h _ hm; omega
  obtain ⟨B, x0⟩ := HV.below h hb0
  have hdn : ¬ d = w.heap.size := fun e => hU (by rw [← e]; exact x0.kd.2)
  have hdn' : ¬ w.heap.size = d := fun e => hdn e.symm
  have xd := x0.newd (Off.drew [] _)
  have o1 := (Off.setCell d 8 (w.alloc (.cells #[.int .i64 17, .int .u32 (c : Nat), .int .u32 (ss : Nat), .int .u32 (num : Nat), .int .i64 (fl : Nat), .slice a len cap] 67)).drew (.int .i64 2)).trans (Off.setCell d 9 _ (.int .u32 (ss : Nat)))
  have e1 : ((w.alloc (.cells #[.int .i64 17, .int .u32 (c : Nat), .int .u32 (ss : Nat), .int .u32 (num : Nat), .int .i64 (fl : Nat), .slice a len cap] 67)).drew.setCell ⟨d, 8, none⟩ (.int .i64 2)).heap[d]? = some (.cells (HVC P B.lb B.db B.vb { s with st := 2 } B.av) 147 (0, 0)) := heap_setCell_same _ _ _ _ _ _ xd.dev
  have x1 := xd.own o1 (s' := { s with st := 2, ss := ss }) (heap_setCell_same _ _ _ _ _ _ e1) rfl rfl rfl rfl
  have g1 := (Gr.same (U := U) (Off.drew [] (w.alloc (.cells #[.int .i64 17, .int .u32 (c : Nat), .int .u32 (ss : Nat), .int .u32 (num : Nat), .int .i64 (fl : Nat), .slice a len cap] 67))) (by simp)).trans (Gr.same (U := U) o1 (by simp [xd.kd.2]))
  have hO := hbringOn_any d P U _ _ ⟨B, x1⟩
  have c8 := x0.c8
  have c9 := x0.c9
  have z8 := x0.fz 8
  have z9 := x0.fz 9
  have H1 : Hid (_) := And.intro ((Gr.below (U := U) hb0).trans g1) (And.intro g1 (And.intro (And.intro hs0 hU) hx0))
  clear h hb0 hx0 hs0 hU x0 xd o1 e1 x1 g1
  go_enter Tryz.func102, Tryz.ntmps102
  go_wp2_with fail
  go_region_with fail
  all_goals
    go_wp2_with fail
    refine hO.mono ?_
    rintro e w3 ⟨rfl, h3⟩
    obtain ⟨U3, g3, x3⟩ := h3.out
    obtain ⟨g01, g1, far0, hx0⟩ := H1.out
    have e3 := ((g1.trans g3).far far0).2.trans hx0
    have q0 : w3.cell? ⟨w.heap.size, 0, none⟩ = some (.int .i64 17) := cell_of_row w3 _ 0 _ _ _ e3
    have H3 : Hid (_) := And.intro (g01.trans g3) x3
    clear hO h3 g3 x3 g01 g1 far0 hx0 e3 H1 c8 c9 z8 z9
    go_wp2_with fail
    go_end0
    exact ⟨rfl, U3, H3.out.1, H3.out.2⟩
set_option maxHeartbeats 6400000 in
theorem htake18_any (d : Nat) (P : Pm) (U : List Nat) (s : Sh) (c ss num fl : Nat) (a : Option Addr) (len cap : Nat) (bs : Nat → Nat) (w : World) (h : HV w d P U s) :
    Calls Tryz.prog 102 #[.pointer (some ⟨d, 0, none⟩), .agg #[.int .i64 18, .int .u32 (c : Nat), .int .u32 (ss : Nat), .int .u32 (num : Nat), .int .i64 (fl : Nat), .slice a len cap]] w fun e w' => e = .returned (.tuple #[]) ∧ Hid (∃ U', Gr U w U' w' ∧ HV w' d P U' (htake s 18 ss num fl bs)) := by
  have hb0 : Below w.heap.size w (w.alloc (.cells #[.int .i64 18, .int .u32 (c : Nat), .int .u32 (ss : Nat), .int .u32 (num : Nat), .int .i64 (fl : Nat), .slice a len cap] 67)) := (Below.refl _ _).alloc (Nat.le_refl _) _
  have hx0 := heap_alloc_new w (.cells #[.int .i64 18, .int .u32 (c : Nat), .int .u32 (ss : Nat), .int .u32 (num : Nat), .int .i64 (fl : Nat), .slice a len cap] 67)
  have hs0 : w.heap.size < (w.alloc (.cells #[.int .i64 18, .int .u32 (c : Nat), .int .u32 (ss : Nat), .int .u32 (num : Nat), .int .i64 (fl : Nat), .slice a len cap] 67)).heap.size := by rw [World.size_alloc]; omega
  have hU : w.heap.size ∉ U := fun hm => by have := HV.ult h _ hm; omega
  obtain ⟨B, x0⟩ := HV.below h hb0
  have hdn : ¬ d = w.heap.size := fun e => hU (by rw [← e]; exact x0.kd.2)
  have hdn' : ¬ w.heap.size = d := fun e => hdn e.symm
  have o1 := Off.setCell d 8 (w.alloc (.cells #[.int .i64 18, .int .u32 (c : Nat), .int .u32 (ss : Nat), .int .u32 (num : Nat), .int .i64 (fl : Nat), .slice a len cap] 67)) (.int .i64 3)
  have x1 := x0.own o1 (s' := { s with st := 3 }) (heap_setCell_same _ _ _ _ _ _ x0.dev) rfl rfl rfl rfl
  have g1 := Gr.same (U := U) o1 (by simp [x0.kd.2])
  have c8 := x0.c8
  have z8 := x0.fz 8
  have hO := hbringOn_any d P U _ _ ⟨B, x1⟩
  have H1 : Hid (_) := And.intro ((Gr.below (U := U) hb0).trans g1) (And.intro g1 (And.intro (And.intro hs0 hU) hx0))
  clear h hb0 hx0 hs0 hU x0 x1 g1 o1
  go_enter Tryz.func102, Tryz.ntmps102
  go_wp2_with fail
  refine hO.mono ?_
  rintro e w3 ⟨rfl, h3⟩
  obtain ⟨U3, g3, x3⟩ := h3.out
  obtain ⟨g01, g1, far0, hx0⟩ := H1.out
  have e3 := ((g1.trans g3).far far0).2.trans hx0
  have q0 : w3.cell? ⟨w.heap.size, 0, none⟩ = some (.int .i64 18) := cell_of_row w3 _ 0 _ _ _ e3
  have H3 : Hid (_) := And.intro (g01.trans g3) x3
  clear hO h3 g3 x3 g01 g1 far0 hx0 e3 H1 c8 z8
  go_wp2_with fail
  go_end0
  exact ⟨rfl, U3, H3.out.1, H3.out.2⟩
set_option maxHeartbeats 6400000 in
theorem htake22_any (d : Nat) (P : Pm) (U : List Nat) (s : Sh) (c ss num fl : Nat) (a : Option Addr) (len cap : Nat) (bs : Nat → Nat) (w : World) (h : HV w d P U s) :
    Calls Tryz.prog 102 #[.pointer (some ⟨d, 0, none⟩), .agg #[.int .i64 22, .int .u32 (c : Nat), .int .u32 (ss : Nat), .int .u32 (num : Nat), .int .i64 (fl : Nat), .slice a len cap]] w fun e w' => e = .returned (.tuple #[]) ∧ Hid (∃ U', Gr U w U' w' ∧ HV w' d P U' (htake s 22 ss num fl bs)) := by
  have hb0 : Below w.heap.size w (w.alloc (.cells #[.int .i64 22, .int .u32 (c : Nat), .int .u32 (ss : Nat), .int .u32 (num : Nat), .int .i64 (fl : Nat), .slice a len cap] 67)) := (Below.refl _ _).alloc (Nat.le_refl _) _
  have hx0 := heap_alloc_new w (.cells #[.int .i64 22, .int .u32 (c : Nat), .int .u32 (ss : Nat), .int .u32 (num : Nat), .int .i64 (fl : Nat), .slice a len cap] 67)
  have hs0 : w.heap.size < (w.alloc (.cells #[.int .i64 22, .int .u32 (c : Nat), .int .u32 (ss : Nat), .int .u32 (num : Nat), .int .i64 (fl : Nat), .slice a len cap] 67)).heap.size := by rw [World.size_alloc]; omega
  have hU : w.heap.size ∉ U := fun hm => by have := HV.ult h _ hm; omega
  obtain ⟨B, x0⟩ := HV.below h hb0
  have hdn : ¬ d = w.heap.size := fun e => hU (by rw [← e]; exact x0.kd.2)
  have hdn' : ¬ w.heap.size = d := fun e => hdn e.symm
  have x1 := x0
  have g1 := Gr.refl U (w.alloc (.cells #[.int .i64 22, .int .u32 (c : Nat), .int .u32 (ss : Nat), .int .u32 (num : Nat), .int .i64 (fl : Nat), .slice a len cap] 67))
  have hO := hbringOn_any d P U _ _ ⟨B, x1⟩
  have H1 : Hid (_) := And.intro ((Gr.below (U := U) hb0).trans g1) (And.intro g1 (And.intro (And.intro hs0 hU) hx0))
  clear h hb0 hx0 hs0 hU x0 x1 g1
  go_enter Tryz.func102, Tryz.ntmps102
  go_wp2_with fail
  refine hO.mono ?_
  rintro e w3 ⟨rfl, h3⟩
  obtain ⟨U3, g3, x3⟩ := h3.out
  obtain ⟨g01, g1, far0, hx0⟩ := H1.out
  have e3 := ((g1.trans g3).far far0).2.trans hx0
  have q0 : w3.cell? ⟨w.heap.size, 0, none⟩ = some (.int .i64 22) := cell_of_row w3 _ 0 _ _ _ e3
  have H3 : Hid (_) := And.intro (g01.trans g3) x3
  clear hO h3 g3 x3 g01 g1 far0 hx0 e3 H1
  go_wp2_with fail
  go_end0
  exact ⟨rfl, U3, H3.out.1, H3.out.2⟩
set_option maxHeartbeats 6400000 in
theorem htake19_any (d : Nat) (P : Pm) (U : List Nat) (s : Sh) (c ss num fl : Nat) (a : Option Addr) (len cap : Nat) (bs : Nat → Nat) (w : World) (h : HV w d P U s) :
    Calls Tryz.prog 102 #[.pointer (some ⟨d, 0, none⟩), .agg #[.int .i64 19, .int .u32 (c : Nat), .int .u32 (ss : Nat), .int .u32 (num : Nat), .int .i64 (fl : Nat), .slice a len cap]] w fun e w' => e = .returned (.tuple #[]) ∧ Hid (∃ U', Gr U w U' w' ∧ HV w' d P U' (htake s 19 ss num fl bs)) := by
  have hb0 : Below w.heap.size w (w.alloc (.cells #[.int .i64 19, .int .u32 (c : Nat), .int .u32 (ss : Nat), .int .u32 (num : Nat), .int .i64 (fl : Nat), .slice a len cap] 67)) := (Below.refl _ _).alloc (Nat.le_refl _) _
  have hx0 := heap_alloc_new w (.cells #[.int .i64 19, .int .u32 (c : Nat), .int .u32 (ss : Nat), .int .u32 (num : Nat), .int .i64 (fl : Nat), .slice a len cap] 67)
  have hs0 : w.heap.size < (w.alloc (.cells #[.int .i64 19, .int .u32 (c : Nat), .int .u32 (ss : Nat), .int .u32 (num : Nat), .int .i64 (fl : Nat), .slice a len cap] 67)).heap.size := by rw [World.size_alloc]; omega
  have hU : w.heap.size ∉ U := fun hm => by have := HV.ult h _ hm; omega
  obtain ⟨B, x0⟩ := HV.below h hb0
  have hdn : ¬ d = w.heap.size := fun e => hU (by rw [← e]; exact x0.kd.2)
  have hdn' : ¬ w.heap.size = d := fun e => hdn e.symm
  have o1 := Off.setCell d 8 (w.alloc (.cells #[.int .i64 19, .int .u32 (c : Nat), .int .u32 (ss : Nat), .int .u32 (num : Nat), .int .i64 (fl : Nat), .slice a len cap] 67)) (.int .i64 4)
  have x1 := x0.own o1 (s' := { s with st := 4 }) (heap_setCell_same _ _ _ _ _ _ x0.dev) rfl rfl rfl rfl
  have g1 := Gr.same (U := U) o1 (by simp [x0.kd.2])
  have c7 := x0.c7
  have c8 := x0.c8
  have z8 := x0.fz 8
  have hV := vrun_any _ _ _ _ _ true _ x1.val
  have H1 : Hid (_) := And.intro ((Gr.below (U := U) hb0).trans g1) (And.intro g1 (And.intro (And.intro hs0 hU) (And.intro hx0 x1)))
  clear h hb0 hx0 hs0 hU x0 x1 g1 o1
  go_enter Tryz.func102, Tryz.ntmps102
  go_wp2_with fail
  refine hV.mono ?_
  rintro e w2 ⟨rfl, h2⟩
  obtain ⟨g01, g1, far0, hx0, x1⟩ := H1.out
  obtain ⟨U2, B2, g2, x2⟩ := x1.vals h2.out.1 h2.out.2
  have hO := hbringOn_any d P U2 _ _ ⟨B2, x2⟩
  have H2 : Hid (_) := And.intro (g01.trans g2) (And.intro (g1.trans g2) (And.intro far0 hx0))
  clear hV h2 g01 g1 far0 hx0 x1 g2 x2 H1 c7 c8 z8
  go_wp2_with fail
  refine hO.mono ?_
  rintro e w3 ⟨rfl, h3⟩
  obtain ⟨U3, g3, x3⟩ := h3.out
  obtain ⟨g01, g1, far0, hx0⟩ := H2.out
  have e3 := ((g1.trans g3).far far0).2.trans hx0
  have q0 : w3.cell? ⟨w.heap.size, 0, none⟩ = some (.int .i64 19) := cell_of_row w3 _ 0 _ _ _ e3
  have H3 : Hid (_) := And.intro (g01.trans g3) x3
  clear hO h3 g3 x3 g01 g1 far0 hx0 e3 H2
  go_wp2_with fail
  go_end0
  exact ⟨rfl, U3, H3.out.1, H3.out.2⟩
set_option maxHeartbeats 6400000 in
theorem htake21_any (d : Nat) (P : Pm) (U : List Nat) (s : Sh) (c ss num fl : Nat) (a : Option Addr) (len cap : Nat) (bs : Nat → Nat) (w : World) (h : HV w d P U s) (hL : s.L.length < 900000) :
    Calls Tryz.prog 102 #[.pointer (some ⟨d, 0, none⟩), .agg #[.int .i64 21, .int .u32 (c : Nat), .int .u32 (ss : Nat), .int .u32 (num : Nat), .int .i64 (fl : Nat), .slice a len cap]] w fun e w' => e = .returned (.tuple #[]) ∧ Hid (∃ U', Gr U w U' w' ∧ HV w' d P U' (htake s 21 ss num fl bs)) := by
  have hb0 : Below w.heap.size w (w.alloc (.cells #[.int .i64 21, .int .u32 (c : Nat), .int .u32 (ss : Nat), .int .u32 (num : Nat), .int .i64 (fl : Nat), .slice a len cap] 67)) := (Below.refl _ _).alloc (Nat.le_refl _) _
  have hx0 := heap_alloc_new w (.cells #[.int .i64 21, .int .u32 (c : Nat), .int .u32 (ss : Nat), .int .u32 (num : Nat), .int .i64 (fl : Nat), .slice a len cap] 67)
  have hs0 : w.heap.size < (w.alloc (.cells #[.int .i64 21, .int .u32 (c : Nat), .int .u32 (ss : Nat), .int .u32 (num : Nat), .int .i64 (fl : Nat), .slice a len cap] 67)).heap.size := by rw [World.size_alloc]; omega
  have hU : w.heap.size ∉ U := fun hm => by have := HV.ult h _ hm; omega
  obtain ⟨B, x0⟩ := HV.below h hb0
  have hdn : ¬ d = w.heap.size := fun e => hU (by rw [← e]; exact x0.kd.2)
  have hdn' : ¬ w.heap.size = d := fun e => hdn e.symm
  have o1 := Off.setCell d 10 (w.alloc (.cells #[.int .i64 21, .int .u32 (c : Nat), .int .u32 (ss : Nat), .int .u32 (num : Nat), .int .i64 (fl : Nat), .slice a len cap] 67)) (.int .u32 (num : Nat))
  have x1 := x0.own o1 (s' := { s with nm := num }) (heap_setCell_same _ _ _ _ _ _ x0.dev) rfl rfl rfl rfl
  have g1 := Gr.same (U := U) o1 (by simp [x0.kd.2])
  have c10 := x0.c10
  have z10 := x0.fz 10
  have hO := hbringOn_any d P U _ _ ⟨B, x1⟩
  have H1 : Hid (_) := And.intro ((Gr.below (U := U) hb0).trans g1) (And.intro g1 (And.intro (And.intro hs0 hU) (And.intro hx0 hL)))
  clear h hb0 hx0 hs0 hU x0 x1 g1 o1 hL
  go_enter Tryz.func102, Tryz.ntmps102
  go_wp2_with fail
  refine hO.mono ?_
  rintro e w3 ⟨rfl, h3⟩
  obtain ⟨U3, g3, x3⟩ := h3.out
  obtain ⟨g01, g1, far0, hx0, hL⟩ := H1.out
  have e3 := ((g1.trans g3).far far0).2.trans hx0
  have q0 : w3.cell? ⟨w.heap.size, 0, none⟩ = some (.int .i64 21) := cell_of_row w3 _ 0 _ _ _ e3
  have hE := hexh_any d P U3 _ w3 x3 (by show s.L.length < _; omega)
  have H3 : Hid (_) := g01.trans g3
  clear hO h3 g3 x3 g01 g1 far0 hx0 e3 H1 c10 z10 hL
  go_wp2_with fail
  refine hE.mono ?_
  rintro e w4 ⟨rfl, h4⟩
  obtain ⟨U4, g4, x4⟩ := h4.out
  have H4 : Hid (_) := And.intro (H3.out.trans g4) x4
  clear hE h4 g4 x4 H3 q0
  go_wp2_with fail
  go_end0
  exact ⟨rfl, U4, H4.out.1, H4.out.2⟩
set_option maxHeartbeats 6400000 in
theorem htake20_any (d : Nat) (P : Pm) (U : List Nat) (s : Sh) (c ss num fl : Nat) (a : Option Addr) (len cap : Nat) (bs : Nat → Nat) (w : World) (h : HV w d P U s) (hr : Row8 w a len cap bs) (ha : ∀ x, a = some x → x.block < w.heap.size ∧ x.block ∉ U) (hfl : fl < 16) (hlen : len = P.i) :
    Calls Tryz.prog 102 #[.pointer (some ⟨d, 0, none⟩), .agg #[.int .i64 20, .int .u32 (c : Nat), .int .u32 (ss : Nat), .int .u32 (num : Nat), .int .i64 (fl : Nat), .slice a len cap]] w fun e w' => e = .returned (.tuple #[]) ∧ Hid (∃ U', Gr U w U' w' ∧ HV w' d P U' (htake s 20 ss num fl bs)) := by
  have hb0 : Below w.heap.size w (w.alloc (.cells #[.int .i64 20, .int .u32 (c : Nat), .int .u32 (ss : Nat), .int .u32 (num : Nat), .int .i64 (fl : Nat), .slice a len cap] 67)) := (Below.refl _ _).alloc (Nat.le_refl _) _
  have hx0 := heap_alloc_new w (.cells #[.int .i64 20, .int .u32 (c : Nat), .int .u32 (ss : Nat), .int .u32 (num : Nat), .int .i64 (fl : Nat), .slice a len cap] 67)
  have hs0 : w.heap.size < (w.alloc (.cells #[.int .i64 20, .int .u32 (c : Nat), .int .u32 (ss : Nat), .int .u32 (num : Nat), .int .i64 (fl : Nat), .slice a len cap] 67)).heap.size := by rw [World.size_alloc]; omega
  have hU : w.heap.size ∉ U := fun hm => by have := HV.ult h _ hm; omega
  obtain ⟨B, x0⟩ := HV.below h hb0
  have hdn : ¬ d = w.heap.size := fun e => hU (by rw [← e]; exact x0.kd.2)
  have hdn' : ¬ w.heap.size = d := fun e => hdn e.symm
  have o1 := Off.setCell d 10 (w.alloc (.cells #[.int .i64 20, .int .u32 (c : Nat), .int .u32 (ss : Nat), .int .u32 (num : Nat), .int .i64 (fl : Nat), .slice a len cap] 67)) (.int .u32 (num : Nat))
  have x1 := x0.own o1 (s' := { s with nm := num }) (heap_setCell_same _ _ _ _ _ _ x0.dev) rfl rfl rfl rfl
  have g1 := Gr.same (U := U) o1 (by simp [x0.kd.2])
  have c10 := x0.c10
  have z10 := x0.fz 10
  have hO := hbringOn_any d P U _ _ ⟨B, x1⟩
  have r0 := hr.below hb0
  have ra0 : ∀ x, a = some x → x.block < (w.alloc (.cells #[.int .i64 20, .int .u32 (c : Nat), .int .u32 (ss : Nat), .int .u32 (num : Nat), .int .i64 (fl : Nat), .slice a len cap] 67)).heap.size ∧ x.block ∉ U := fun x hx => ⟨by have := (ha x hx).1; omega, (ha x hx).2⟩
  have HB := bitHold fl hfl
  have H1 : Hid (_) := And.intro ((Gr.below (U := U) hb0).trans g1) (And.intro g1 (And.intro (And.intro hs0 hU) (And.intro hx0 (And.intro r0 (And.intro ra0 (And.intro HB hlen))))))
  clear h hb0 hx0 hs0 hU x0 x1 g1 o1 hr ha hfl r0 ra0 HB hlen
  go_enter Tryz.func102, Tryz.ntmps102
  go_wp2_with fail
  refine hO.mono ?_
  rintro e w2 ⟨rfl, h2⟩
  obtain ⟨U2, g2, B2, x2⟩ := h2.out
  obtain ⟨g01, g1, far0, hx0, r0, ra0, HB, hlen⟩ := H1.out
  have G2 := g1.trans g2
  have far2 := G2.far far0
  have e2 := far2.2.trans hx0
  have q0 : w2.cell? ⟨w.heap.size, 0, none⟩ = some (.int .i64 20) := cell_of_row w2 _ 0 _ _ _ e2
  have q4 : w2.cell? ⟨w.heap.size, 4, none⟩ = some (.int .i64 (fl : Nat)) := cell_of_row w2 _ 4 _ _ _ e2
  have y7 := x2.c7
  have r2 : Row8 w2 a len cap bs := r0.off G2.off (fun x hx => (ra0 x hx).2)
  have ra2 : ∀ x, a = some x → x.block < w2.heap.size ∧ x.block ∉ U2 := fun x hx => (G2.far (ra0 x hx)).1
  have x2d := x2.newd (Off.drew [] w2)
  have hV := vhold_any _ _ _ _ _ (bits .and .i64 (fl : Int) 8 != 0) _ x2d.val
  have H2 : Hid (_) := And.intro (g01.trans g2) (And.intro x2d (And.intro far2.1 (And.intro e2 (And.intro r2 (And.intro ra2 (And.intro HB hlen))))))
  clear hO h2 g2 x2 g01 g1 far0 hx0 r0 ra0 G2 far2 e2 r2 ra2 x2d H1 c10 z10 HB hlen
  go_wp2_with fail
  go_region_with (go_at_call 164; refine hV.mono ?_; rintro e w3 ⟨rfl, h3⟩)
  all_goals
    obtain ⟨g2, x2d, far2, e2, r2, ra2, HB, hlen⟩ := H2.out
    obtain ⟨U3, B3, g3', x3⟩ := x2d.vals h3.out.1 h3.out.2
    have g3 : Gr U2 w2 U3 w3 := Gr.trans (Gr.same (Off.drew [] w2) (by simp)) g3'
    have far3 := g3.far far2
    have e3 := far3.2.trans e2
    have q5 : w3.cell? ⟨w.heap.size, 5, none⟩ = some (.slice a len cap) := cell_of_row w3 _ 5 _ _ _ e3
    have z7 := x3.c7
    have r3 : Row8 w3 a len cap bs := r2.off g3.off (fun x hx => (ra2 x hx).2)
    have x3d := x3.newd (Off.drew [] w3)
    have hT := vtake_any _ _ _ _ _ a len cap bs _ x3d.val (r3.below (Below.drew (Below.refl _ _)))
    have H3 : Hid (_) := And.intro (g2.trans g3) (And.intro x3d (And.intro HB hlen))
    clear hV H2 h3 g2 x2d far2 e2 r2 ra2 g3' x3 g3 far3 e3 r3 x3d q4 q0 y7 HB hlen
    go_wp2_with fail
    go_region_with (go_at_call 165; refine hT.mono ?_; rintro e w4 ⟨rfl, h4⟩)
    all_goals
      obtain ⟨M4, o4, v4, hM4⟩ := h4.out
      obtain ⟨g3, x3d, HB, hlen⟩ := H3.out
      rw [if_pos hlen] at v4
      have hlt4 : ∀ k, k ∈ M4 → k < w4.heap.size := fun k hk => by
        rcases hM4 k hk with h | h
        · exact Nat.lt_of_lt_of_le (x3d.ltU k (x3d.kM k h).2) o4.size
        · exact h.2
      obtain ⟨U4, B4, g4', x4⟩ := x3d.vald o4 v4 (fun k hk => (hM4 k hk).imp id And.left) hlt4
      have g4 : Gr U w U4 w4 := g3.trans (Gr.trans (Gr.same (Off.drew [] w3) (by simp)) g4')
      have x5 : HX w4 d P U4 (htake s 20 ss num fl bs) B4 := by
        have hs : htake s 20 ss num fl bs = { hon { s with nm := num } with v := vtake (vhold (vfresh s.v) (bits .and .i64 (fl : Int) 8 != 0)) bs } := by
          rw [HB]; rfl
        rw [hs]; exact x4
      have H4 : Hid (_) := And.intro g4 x5
      clear hT H3 h4 o4 v4 hM4 hlt4 g3 x3d g4' x4 g4 x5 HB hlen q5 z7
      go_wp2_with fail
      go_end0
      exact ⟨rfl, U4, H4.out.1, B4, H4.out.2⟩
theorem htake_any (d : Nat) (P : Pm) (U : List Nat) (s : Sh) (k c ss num fl : Nat) (a : Option Addr) (len cap : Nat) (bs : Nat → Nat) (w : World) (h : HV w d P U s) (hr : Row8 w a len cap bs) (ha : ∀ x, a = some x → x.block < w.heap.size ∧ x.block ∉ U) (hk : 17 ≤ k ∧ k ≤ 22) (hfl : fl < 16) (hlen : k = 20 → len = P.i) (hL : s.L.length < 900000) :
    Calls Tryz.prog 102 #[.pointer (some ⟨d, 0, none⟩), .agg #[.int .i64 (k : Nat), .int .u32 (c : Nat), .int .u32 (ss : Nat), .int .u32 (num : Nat), .int .i64 (fl : Nat), .slice a len cap]] w fun e w' => e = .returned (.tuple #[]) ∧ Hid (∃ U', Gr U w U' w' ∧ HV w' d P U' (htake s k ss num fl bs)) := by
  have : k = 17 ∨ k = 18 ∨ k = 19 ∨ k = 20 ∨ k = 21 ∨ k = 22 := by omega
  rcases this with rfl | rfl | rfl | rfl | rfl | rfl
  · exact htake17_any d P U s c ss num fl a len cap bs w h
  · exact htake18_any d P U s c ss num fl a len cap bs w h
  · exact htake19_any d P U s c ss num fl a len cap bs w h
  · exact htake20_any d P U s c ss num fl a len cap bs w h hr ha hfl (hlen rfl)
  · exact htake21_any d P U s c ss num fl a len cap bs w h hL
  · exact htake22_any d P U s c ss num fl a len cap bs w h
end Go.Proofs.YtndjepeolamedaaGreat
