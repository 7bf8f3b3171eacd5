/- Part 10 of the texts on which the proofs of layer 13 rest: contracts of Go functions. -/
import Derived.Test.YtmleiemlfogffaaGreatPkA07
import Derived.Test.YtmleiemlfogffaaGreatPkA08
namespace Go.Proofs.YtmleiemlfogffaaGreat
set_option maxRecDepth 100000
open Go.RowKit
set_option maxHeartbeats 3200000 in
theorem rvlatch_any (d m g n mx : Nat) (P : Pm) (U : List Nat) (s : Sd) (x : Int) (w : World) (h : RW w d m g n mx P U s) (hx : x ≠ 0) (hL : s.L.length < 900000) :
    Calls Tryz.prog 90 #[.pointer (some ⟨d, 0, none⟩), .int .i64 x] w fun e w' => e = .returned (.tuple #[]) ∧ Hid (∃ U', Gr U w U' w' ∧ RW w' d m g n mx P U' (dlatch s x)) := by
  obtain ⟨B, h⟩ := h
  have hT := rtripv_any d m g n mx P U s B _ x w h hx
  have HL : Hid (_) := hL
  clear h hx hL
  unfold dlatch
  by_cases ht : vtripB s.v x = true
  · rw [if_pos ht]
    rw [ht] at hT
    go_enter Tryz.func90, Tryz.ntmps90
    go_wp2_with (go_at_call 125; refine hT.mono ?_; rintro e w2 ⟨rfl, h2⟩)
    obtain ⟨g2, B2, x2⟩ := h2.out
    have xd := x2.newd (Off.drew [] w2)
    have hN := rnotev_any d m g n mx P U _ B2 _ x w2.drew xd HL.out
    have c19 : w2.cell? ⟨d, 19, none⟩ = some (.int .u32 (s.ss : Nat)) := cell_of_row w2 d 19 _ _ _ x2.dev
    have c20 : w2.cell? ⟨d, 20, none⟩ = some (.int .u32 (s.nm : Nat)) := cell_of_row w2 d 20 _ _ _ x2.dev
    have H2 : Hid (_) := g2.trans (Gr.same (l := []) (Off.drew [] w2) (by simp))
    clear hT h2 g2 x2 xd
    go_region_with (go_at_call 88; refine hN.mono ?_; rintro e w3 ⟨rfl, h3⟩)
    all_goals
      clear hN c19 c20
      go_wp2_with fail
      go_end0
      obtain ⟨U3, B3, g3, x3⟩ := h3.out
      exact ⟨rfl, U3, H2.out.trans g3, B3, x3⟩
  · rw [if_neg ht]
    have ht' : vtripB s.v x = false := by simpa using ht
    rw [ht'] at hT
    go_enter Tryz.func90, Tryz.ntmps90
    go_wp2_with (go_at_call 125; refine hT.mono ?_; rintro e w2 ⟨rfl, h2⟩)
    go_end0
    obtain ⟨g2, B2, x2⟩ := h2.out
    exact ⟨rfl, U, g2, B2, x2⟩
set_option maxHeartbeats 3200000 in
theorem rvon_any (d m g n mx : Nat) (P : Pm) (U : List Nat) (s : Sd) (w : World) (h : RW w d m g n mx P U s) :
    Calls Tryz.prog 119 #[.pointer (some ⟨d, 0, none⟩)] w fun e w' => e = .returned (.tuple #[]) ∧ Hid (∃ U', Gr U w U' w' ∧ RW w' d m g n mx P U' (don s)) := by
  obtain ⟨B, h⟩ := h
  have c22 : w.cell? ⟨d, 22, none⟩ = some (.int .i64 (s.od : Nat)) := cell_of_row w d 22 _ _ _ h.dev
  have c10 : w.cell? ⟨d, 10, none⟩ = some (.int .i64 (s.dc : Nat)) := cell_of_row w d 10 _ _ _ h.dev
  have z22 := h.fz 22
  have z10 := h.fz 10
  have e1 : (w.setCell ⟨d, 22, none⟩ (.int .i64 0)).heap[d]? = some (.cells (RDC P m mx B.cp B.lv B.vv { s with od := 0 } B.av) 112 (0, 0)) := heap_setCell_same _ _ _ _ _ _ h.dev
  have e2 : ((w.setCell ⟨d, 22, none⟩ (.int .i64 0)).setCell ⟨d, 10, none⟩ (.int .i64 0)).heap[d]? = some (.cells (RDC P m mx B.cp B.lv B.vv { s with od := 0, dc := 0 } B.av) 112 (0, 0)) := heap_setCell_same _ _ _ _ _ _ e1
  have o2 := (Off.setCell d 22 w (.int .i64 0)).trans (Off.setCell d 10 _ (.int .i64 0))
  have x2 := h.own (A' := s.st ≠ 6) (s' := { s with od := 0, dc := 0 }) o2 e2 rfl ⟨rfl, rfl⟩ rfl rfl h.vok (Nat.zero_le _) id
  have hC := rcomev_any d m g n mx P U _ B _ _ x2
  have H2 : Hid (_) := Gr.same (U := U) o2 (by simp [h.kd.2])
  clear h e1 e2 o2 x2
  go_enter Tryz.func119, Tryz.ntmps119
  go_wp2_with (go_at_call 152; refine hC.mono ?_; rintro e w3 ⟨rfl, h3⟩)
  go_end0
  obtain ⟨g3, B3, x3⟩ := h3.out
  exact ⟨rfl, U, H2.out.trans g3, B3, x3⟩
set_option maxHeartbeats 3200000 in
theorem rvleave_any (d m g n mx : Nat) (P : Pm) (U : List Nat) (s : Sd) (k : Nat) (w : World) (h : RW w d m g n mx P U s) (hs : s.st ≠ 6) :
    Calls Tryz.prog 151 #[.pointer (some ⟨d, 0, none⟩), .int .i64 (k : Nat)] w fun e w' => e = .returned (.tuple #[]) ∧ Hid (∃ U', Gr U w U' w' ∧ RW w' d m g n mx P U' (dleave s k)) := by
  obtain ⟨B, h⟩ := h
  have hR := rrunv_any d m g n mx P U s B _ false w h
  clear h
  go_enter Tryz.func151, Tryz.ntmps151
  go_wp2_with (go_at_call 121; refine hR.mono ?_; rintro e w2 ⟨rfl, h2⟩; obtain ⟨g2, B2, x2⟩ := h2.out; have c18 : w2.cell? ⟨d, 18, none⟩ = some (.int .i64 (s.st : Nat)) := cell_of_row w2 d 18 _ _ _ x2.dev; have c19 : w2.cell? ⟨d, 19, none⟩ = some (.int .u32 (s.ss : Nat)) := cell_of_row w2 d 19 _ _ _ x2.dev; have c20 : w2.cell? ⟨d, 20, none⟩ = some (.int .u32 (s.nm : Nat)) := cell_of_row w2 d 20 _ _ _ x2.dev; have c21 : w2.cell? ⟨d, 21, none⟩ = some (.int .u32 (s.sn : Nat)) := cell_of_row w2 d 21 _ _ _ x2.dev; have c22 : w2.cell? ⟨d, 22, none⟩ = some (.int .i64 (s.od : Nat)) := cell_of_row w2 d 22 _ _ _ x2.dev; have z18 := x2.fz 18; have z19 := x2.fz 19; have z20 := x2.fz 20; have z21 := x2.fz 21; have z22 := x2.fz 22; have H2 : Hid (_) := And.intro g2 x2; clear hR h2 g2 x2)
  go_end0
  obtain ⟨g2, x2⟩ := H2.out
  have e1 : (w2.setCell ⟨d, 18, none⟩ (.int .i64 (k : Nat))).heap[d]? = some (.cells (RDC P m mx B2.cp B2.lv B2.vv { s with v := vrun s.v false, st := k } B2.av) 112 (0, 0)) := heap_setCell_same _ _ _ _ _ _ x2.dev
  have e2 : ((w2.setCell ⟨d, 18, none⟩ (.int .i64 (k : Nat))).setCell ⟨d, 19, none⟩ (.int .u32 0)).heap[d]? = some (.cells (RDC P m mx B2.cp B2.lv B2.vv { s with v := vrun s.v false, st := k, ss := 0 } B2.av) 112 (0, 0)) := heap_setCell_same _ _ _ _ _ _ e1
  have e3 : (((w2.setCell ⟨d, 18, none⟩ (.int .i64 (k : Nat))).setCell ⟨d, 19, none⟩ (.int .u32 0)).setCell ⟨d, 20, none⟩ (.int .u32 0)).heap[d]? = some (.cells (RDC P m mx B2.cp B2.lv B2.vv { s with v := vrun s.v false, st := k, ss := 0, nm := 0 } B2.av) 112 (0, 0)) := heap_setCell_same _ _ _ _ _ _ e2
  have e4 : ((((w2.setCell ⟨d, 18, none⟩ (.int .i64 (k : Nat))).setCell ⟨d, 19, none⟩ (.int .u32 0)).setCell ⟨d, 20, none⟩ (.int .u32 0)).setCell ⟨d, 21, none⟩ (.int .u32 0)).heap[d]? = some (.cells (RDC P m mx B2.cp B2.lv B2.vv { s with v := vrun s.v false, st := k, ss := 0, nm := 0, sn := 0 } B2.av) 112 (0, 0)) := heap_setCell_same _ _ _ _ _ _ e3
  have e5 : (((((w2.setCell ⟨d, 18, none⟩ (.int .i64 (k : Nat))).setCell ⟨d, 19, none⟩ (.int .u32 0)).setCell ⟨d, 20, none⟩ (.int .u32 0)).setCell ⟨d, 21, none⟩ (.int .u32 0)).setCell ⟨d, 22, none⟩ (.int .i64 0)).heap[d]? = some (.cells (RDC P m mx B2.cp B2.lv B2.vv (dleave s k) B2.av) 112 (0, 0)) := heap_setCell_same _ _ _ _ _ _ e4
  have o5 := ((((Off.setCell d 18 w2 (.int .i64 (k : Nat))).trans (Off.setCell d 19 _ (.int .u32 0))).trans (Off.setCell d 20 _ (.int .u32 0))).trans (Off.setCell d 21 _ (.int .u32 0))).trans (Off.setCell d 22 _ (.int .i64 0))
  have x5 := x2.own (A' := (dleave s k).st ≠ 6) (s' := dleave s k) o5 e5 rfl ⟨rfl, rfl⟩ rfl rfl x2.vok x2.dcl (fun _ => hs)
  exact ⟨rfl, U, g2.trans (Gr.same o5 (by simp [x2.kd.2])), B2, x5⟩
set_option maxHeartbeats 1600000 in
theorem rbusy_any (d k : Nat) (w : World) (c18 : w.cell? ⟨d, 18, none⟩ = some (.int .i64 (k : Nat))) :
    Calls Tryz.prog 148 #[.pointer (some ⟨d, 0, none⟩)] w fun e w' => e = .returned (.bool (decide (k = 2 ∨ k = 3 ∨ k = 4))) ∧ w' = w := by
  go_enter Tryz.func148, Tryz.ntmps148
  go_wp2_with fail
  all_goals
    go_ret
    refine ⟨congrArg (fun b => Ending.returned (Value.bool b)) (?_ : _ = decide (k = 2 ∨ k = 3 ∨ k = 4)), rfl⟩
    rw [Bool.eq_iff_iff]
    simp <;> omega
end Go.Proofs.YtmleiemlfogffaaGreat
namespace Go.Proofs.YtmleiemlfogffaaGreat
set_option maxRecDepth 100000
open Go.RowKit
set_option maxRecDepth 100000 in
set_option maxHeartbeats 1600000 in
theorem bringOn_any (d m g n mx : Nat) (P : Pm) (U : List Nat) (s : Sd) (w : World) (h : DV w d m g n mx P U s) :
    Calls Tryz.prog 169 #[.pointer (some ⟨d, 9, none⟩)] w fun e w' => e = .returned (.tuple #[]) ∧ Hid (∃ U', Gr U w U' w' ∧ DV w' d m g n mx P U' (don s)) := by
  obtain ⟨B, h⟩ := h
  have o1 := Off.setCell d 15 w (.int .i64 0)
  have h1 := h.own o1 (s' := { s with od := 0 }) (heap_setCell_same _ _ _ _ _ _ h.dev) rfl rfl rfl rfl rfl id
  obtain ⟨_, _, _, _, _, _, _, _, _, c9, _, _, _, _, _, c15, _⟩ := h.cells
  have z15 := h.fz 15
  have H : Hid (_) := And.intro h.kd.2 (And.intro o1 h1)
  clear h h1 o1
  go_enter Tryz.func169, Tryz.ntmps169
  go_wp2_with fail
  refine (wfeed_any _ _ _ _ H.out.2.2.dog).mono ?_
  rintro e w2 ⟨rfl, o2, d2⟩
  have h2 := H.out.2.2.dogd o2 d2
  have c10 := h2.cells.2.2.2.2.2.2.2.2.2.2.1
  have H2 : Hid (_) := And.intro (H.out.2.1.more (m := U) (by simp [H.out.1])) (And.intro (o2.more (m := U) (by simp [H.out.2.2.kb.2])) h2)
  clear h2 o2 d2 H c9 c15 z15
  go_wp2_with fail
  refine (vfresh_any _ _ _ _ _ _ H2.out.2.2.val).mono ?_
  rintro e w3 ⟨rfl, h3⟩
  obtain ⟨U', B', g3, x3⟩ := H2.out.2.2.vals h3.out.1 h3.out.2
  have H3 : Hid (∃ U', Gr U w U' w3 ∧ DV w3 d m g n mx P U' (don s)) := ⟨U', (Gr.trans (Gr.trans ⟨H2.out.1, fun _ h => .inl h⟩ ⟨H2.out.2.1, fun _ h => .inl h⟩) g3), B', x3⟩
  clear H2 h3 g3 x3 c10
  go_wp2_with fail
  go_end0
  exact ⟨rfl, H3⟩
set_option maxRecDepth 100000 in
set_option maxHeartbeats 1600000 in
theorem leave_any (d m g n mx : Nat) (P : Pm) (U : List Nat) (s : Sd) (k : Nat) (w : World) (h : DV w d m g n mx P U s) (hs : s.st ≠ 6) :
    Calls Tryz.prog 194 #[.pointer (some ⟨d, 9, none⟩), .int .i64 (k : Nat)] w fun e w' => e = .returned (.tuple #[]) ∧ Hid (∃ U', Gr U w U' w' ∧ DV w' d m g n mx P U' (dleave s k)) := by
  obtain ⟨B, h⟩ := h
  have c10 := h.cells.2.2.2.2.2.2.2.2.2.2.1
  have H : Hid (_) := h
  clear h
  go_enter Tryz.func194, Tryz.ntmps194
  go_wp2_with fail
  refine (vrun_any _ _ _ _ _ _ _ H.out.val).mono ?_
  rintro e w2 ⟨rfl, h2⟩
  obtain ⟨U', B', g2, x2⟩ := H.out.vals h2.out.1 h2.out.2
  have o3 := Off.setCell d 12 w2 (.int .u32 0)
  have o4 := o3.trans (Off.setCell d 13 _ (.int .u32 0))
  have o5 := o4.trans (Off.setCell d 14 _ (.int .u32 0))
  have o6 := o5.trans (Off.setCell d 15 _ (.int .i64 0))
  have o7 := o6.trans (Off.setCell d 11 _ (.int .i64 (k : Nat)))
  have x7 := x2.own o7 (A' := (dleave s k).st ≠ 6) (s' := dleave s k) (heap_setCell_same _ _ _ _ _ _ (heap_setCell_same _ _ _ _ _ _ (heap_setCell_same _ _ _ _ _ _ (heap_setCell_same _ _ _ _ _ _ (heap_setCell_same _ _ _ _ _ _ x2.dev))))) rfl rfl rfl rfl rfl (fun _ => hs)
  have H7 : Hid (_) := And.intro (Gr.trans g2 (Gr.same o7 (by simp [x2.kd.2]))) x7
  obtain ⟨_, _, _, _, _, _, _, _, _, _, _, c11, c12, c13, c14, c15, _⟩ := x2.cells
  have z11 := x2.fz 11
  have z12 := x2.fz 12
  have z13 := x2.fz 13
  have z14 := x2.fz 14
  have z15 := x2.fz 15
  clear H h2 g2 x2 o3 o4 o5 o6 o7 x7 c10
  go_wp2_with fail
  go_end0
  exact ⟨rfl, _, H7.out.1, _, H7.out.2⟩
set_option maxRecDepth 100000 in
theorem inSession_any (d k : Nat) (w : World) (c11 : w.cell? ⟨d, 11, none⟩ = some (.int .i64 (k : Nat))) :
    Calls Tryz.prog 193 #[.pointer (some ⟨d, 9, none⟩)] w fun e w' => e = .returned (.bool (decide (k = 2 ∨ k = 3 ∨ k = 4))) ∧ w' = w := by
  go_enter Tryz.func193, Tryz.ntmps193
  go_wp2_with fail
  all_goals
    go_ret
    refine ⟨congrArg (fun b => Ending.returned (Value.bool b)) (?_ : _ = decide (k = 2 ∨ k = 3 ∨ k = 4)), rfl⟩
    rw [Bool.eq_iff_iff]
    simp <;> omega
theorem silent_nil (w : World) : Calls Tryz.prog 61 #[.pointer none] w fun e w' => e = .returned (.int .i64 1) ∧ w' = w := by
  go_enter Tryz.func61, Tryz.ntmps61
  go_wp2_with fail
  go_ret
  exact ⟨rfl, rfl⟩
theorem silent_down (d : Nat) (w : World) (c11 : w.cell? ⟨d, 11, none⟩ = some (.int .i64 (6 : Nat))) : Calls Tryz.prog 61 #[.pointer (some ⟨d, 0, none⟩)] w fun e w' => e = .returned (.int .i64 70) ∧ w' = w := by
  go_enter Tryz.func61, Tryz.ntmps61
  go_wp2_with fail
  go_ret
  exact ⟨rfl, rfl⟩
theorem silent_up (d k : Nat) (w : World) (c11 : w.cell? ⟨d, 11, none⟩ = some (.int .i64 (k : Nat))) (h6 : k ≠ 6) : Calls Tryz.prog 61 #[.pointer (some ⟨d, 0, none⟩)] w fun e w' => e = .returned (.int .i64 0) ∧ w' = w := by
  have e6 : ((k : Int) = 6) = False := by simp; omega
  go_enter Tryz.func61, Tryz.ntmps61
  go_wp2_with fail
  go_ret
  exact ⟨rfl, rfl⟩
set_option maxRecDepth 100000 in
set_option maxHeartbeats 1600000 in
theorem dvnote_any (d m g n mx : Nat) (P : Pm) (U : List Nat) (s : Sd) (x : Int) (w : World) (h : DV w d m g n mx P U s) (hx : x ≠ 0) (hw : (Lit.int .i64 x).wf = true) (hL : s.L.length < 900000) :
    Calls Tryz.prog 63 #[.pointer (some ⟨d, 0, none⟩), .int .i64 x] w fun e w' => e = .returned (.tuple #[]) ∧ Hid (∃ U', Gr U w U' w' ∧ DV w' d m g n mx P U' (dnote s x)) := by
  obtain ⟨B, h⟩ := h
  have hd := h.newd (Off.drew [] w)
  have hC := dnote_any B.lb B.Ul s.L x (s.ss : Nat) (s.nm : Nat) w.drew hd.log (by omega) hw hx
  obtain ⟨_, _, _, _, _, _, _, _, c8, _, _, _, c12, c13, _⟩ := h.cells
  have H : Hid (_) := hd
  clear h hd
  go_enter Tryz.func63, Tryz.ntmps63
  go_wp2_with fail
  go_region_with (go_at_call 104; refine hC.mono ?_; rintro e w2 ⟨rfl, h2⟩)
  all_goals
    obtain ⟨V, o2, L2, hV⟩ := h2.out
    obtain ⟨U', B', g3, x3⟩ := H.out.logd o2 L2 hV
    have H3 : Hid (∃ U', Gr U w U' w2 ∧ DV w2 d m g n mx P U' (dnote s x)) := ⟨U', Gr.trans (Gr.same (Off.drew [] w) (by simp)) g3, B', x3⟩
    clear hC H h2 o2 L2 hV g3 x3
    go_wp2_with fail
    go_end0
    exact ⟨rfl, H3⟩
set_option maxRecDepth 100000 in
set_option maxHeartbeats 1600000 in
theorem dvlatch_any (d m g n mx : Nat) (P : Pm) (U : List Nat) (s : Sd) (x : Int) (w : World) (h : DV w d m g n mx P U s) (hx : x ≠ 0) (hw : (Lit.int .i64 x).wf = true) (hL : s.L.length < 900000) :
    Calls Tryz.prog 70 #[.pointer (some ⟨d, 0, none⟩), .int .i64 x] w fun e w' => e = .returned (.tuple #[]) ∧ Hid (∃ U', Gr U w U' w' ∧ DV w' d m g n mx P U' (dlatch s x)) := by
  obtain ⟨B, h⟩ := h
  have c10 := h.cells.2.2.2.2.2.2.2.2.2.2.1
  have H : Hid (_) := h
  clear h
  unfold dlatch
  by_cases ht : vtripB s.v x = true
  · rw [if_pos ht]
    go_enter Tryz.func70, Tryz.ntmps70
    go_wp2_with fail
    refine (vtrip_any _ _ _ _ _ _ _ H.out.val).mono ?_
    rintro e w2 ⟨rfl, h2⟩
    rw [ht]
    obtain ⟨U', B', g2, x2⟩ := H.out.vals h2.out.1 h2.out.2
    have hN := dvnote_any d m g n mx P U' { s with v := vtrip s.v x } x w2 ⟨B', x2⟩ hx hw hL
    have H2 : Hid (_) := g2
    clear H h2 g2 x2 c10
    go_wp2_with (go_at_call 63; refine hN.mono ?_; rintro e w3 ⟨rfl, h3⟩)
    go_end0
    obtain ⟨U3, g3, x3⟩ := h3.out
    exact ⟨rfl, U3, H2.out.trans g3, x3⟩
  · rw [if_neg ht]
    have ht' : vtripB s.v x = false := by simpa using ht
    go_enter Tryz.func70, Tryz.ntmps70
    go_wp2_with fail
    refine (vtrip_any _ _ _ _ _ _ _ H.out.val).mono ?_
    rintro e w2 ⟨rfl, h2⟩
    rw [ht']
    obtain ⟨U', B', g2, x2⟩ := H.out.vals h2.out.1 h2.out.2
    have H2 : Hid (_) := And.intro g2 x2
    clear H h2 g2 x2 c10
    go_wp2_with fail
    go_end0
    exact ⟨rfl, U', H2.out.1, B', H2.out.2⟩
end Go.Proofs.YtmleiemlfogffaaGreat
namespace Go.Proofs.YtmleiemlfogffaaGreat
set_option maxRecDepth 100000
open Go.RowKit
theorem hostK_true {k : Int} (h : 1 ≤ k ∧ k ≤ 5) : hostK k = true := decide_eq_true h
theorem hostK_false {k : Int} (h : ¬ (1 ≤ k ∧ k ≤ 5)) : hostK k = false := decide_eq_false h
theorem devK_true {k : Int} (h : 17 ≤ k ∧ k ≤ 22) : devK k = true := decide_eq_true h
theorem devK_false {k : Int} (h : ¬ (17 ≤ k ∧ k ≤ 22)) : devK k = false := decide_eq_false h
set_option maxHeartbeats 400000 in
theorem fromHost_any (k : Int) (w : World) : Calls Tryz.prog 102 #[.int .i64 k] w fun e w' => e = .returned (.bool (hostK k)) ∧ w' = w := by
  by_cases h1 : 1 ≤ k
  · by_cases h2 : k ≤ 5
    · rw [hostK_true ⟨h1, h2⟩]
      go_enter Tryz.func102, Tryz.ntmps102
      go_wp2
      go_ret
      exact ⟨rfl, rfl⟩
    · rw [hostK_false (by omega)]
      go_enter Tryz.func102, Tryz.ntmps102
      go_wp2
      go_ret
      exact ⟨rfl, rfl⟩
  · rw [hostK_false (by omega)]
    go_enter Tryz.func102, Tryz.ntmps102
    go_wp2
    go_ret
    exact ⟨rfl, rfl⟩
set_option maxHeartbeats 400000 in
theorem fromDevice_any (k : Int) (w : World) : Calls Tryz.prog 159 #[.int .i64 k] w fun e w' => e = .returned (.bool (devK k)) ∧ w' = w := by
  by_cases h1 : 17 ≤ k
  · by_cases h2 : k ≤ 22
    · rw [devK_true ⟨h1, h2⟩]
      go_enter Tryz.func159, Tryz.ntmps159
      go_wp2
      go_ret
      exact ⟨rfl, rfl⟩
    · rw [devK_false (by omega)]
      go_enter Tryz.func159, Tryz.ntmps159
      go_wp2
      go_ret
      exact ⟨rfl, rfl⟩
  · rw [devK_false (by omega)]
    go_enter Tryz.func159, Tryz.ntmps159
    go_wp2
    go_ret
    exact ⟨rfl, rfl⟩
set_option maxHeartbeats 400000 in
theorem refHost_any (k : Int) (w : World) : Calls Tryz.prog 86 #[.int .i64 k] w fun e w' => e = .returned (.bool (hostK k)) ∧ w' = w := by
  by_cases h1 : 1 ≤ k
  · by_cases h2 : k ≤ 5
    · rw [hostK_true ⟨h1, h2⟩]
      go_enter Tryz.func86, Tryz.ntmps86
      go_wp2
      go_ret
      exact ⟨rfl, rfl⟩
    · rw [hostK_false (by omega)]
      go_enter Tryz.func86, Tryz.ntmps86
      go_wp2
      go_ret
      exact ⟨rfl, rfl⟩
  · rw [hostK_false (by omega)]
    go_enter Tryz.func86, Tryz.ntmps86
    go_wp2
    go_ret
    exact ⟨rfl, rfl⟩
set_option maxHeartbeats 400000 in
theorem refDevice_any (k : Int) (w : World) : Calls Tryz.prog 96 #[.int .i64 k] w fun e w' => e = .returned (.bool (devK k)) ∧ w' = w := by
  by_cases h1 : 17 ≤ k
  · by_cases h2 : k ≤ 22
    · rw [devK_true ⟨h1, h2⟩]
      go_enter Tryz.func96, Tryz.ntmps96
      go_wp2
      go_ret
      exact ⟨rfl, rfl⟩
    · rw [devK_false (by omega)]
      go_enter Tryz.func96, Tryz.ntmps96
      go_wp2
      go_ret
      exact ⟨rfl, rfl⟩
  · rw [devK_false (by omega)]
    go_enter Tryz.func96, Tryz.ntmps96
    go_wp2
    go_ret
    exact ⟨rfl, rfl⟩
theorem cont1 {k : Int} (h : k = 1 ∨ k = 2 ∨ k = 17) : cont k = 1 := if_pos h
theorem cont2 {k : Int} (h : k = 4 ∨ k = 20) : cont k = 2 := by unfold cont; rw [if_neg (by omega), if_pos h]
theorem cont0 {k : Int} (h : ¬ (k = 1 ∨ k = 2 ∨ k = 17)) (h2 : ¬ (k = 4 ∨ k = 20)) : cont k = 0 := by unfold cont; rw [if_neg h, if_neg h2]
theorem cont_cases (k : Int) : cont k = 0 ∨ cont k = 1 ∨ cont k = 2 := by
  unfold cont
  by_cases h : k = 1 ∨ k = 2 ∨ k = 17
  · rw [if_pos h]; omega
  · rw [if_neg h]
    by_cases h2 : k = 4 ∨ k = 20
    · rw [if_pos h2]; omega
    · rw [if_neg h2]; omega
set_option maxHeartbeats 400000 in
theorem contentOf_any (k : Int) (w : World) : Calls Tryz.prog 191 #[.int .i64 k] w fun e w' => e = .returned (.int .i64 (cont k : Nat)) ∧ w' = w := by
  by_cases h1 : k = 1
  · subst h1
    go_enter Tryz.func191, Tryz.ntmps191
    go_wp2
    go_ret
    exact ⟨rfl, rfl⟩
  · by_cases h2 : k = 2
    · subst h2
      go_enter Tryz.func191, Tryz.ntmps191
      go_wp2
      go_ret
      exact ⟨rfl, rfl⟩
    · by_cases h3 : k = 17
      · subst h3
        go_enter Tryz.func191, Tryz.ntmps191
        go_wp2
        go_ret
        exact ⟨rfl, rfl⟩
      · by_cases h4 : k = 4
        · subst h4
          go_enter Tryz.func191, Tryz.ntmps191
          go_wp2
          go_ret
          exact ⟨rfl, rfl⟩
        · by_cases h5 : k = 20
          · subst h5
            go_enter Tryz.func191, Tryz.ntmps191
            go_wp2
            go_ret
            exact ⟨rfl, rfl⟩
          · rw [cont0 (by omega) (by omega)]
            go_enter Tryz.func191, Tryz.ntmps191
            go_wp2
            go_ret
            exact ⟨rfl, rfl⟩
theorem mData0 {k n : Int} (h : cont k = 0) : mData k n = decide (n = 0) := by unfold mData; rw [if_neg (by omega), if_neg (by omega)]
theorem mData1 {k n : Int} (h : cont k = 1) : mData k n = decide (n = 4) := by unfold mData; rw [if_pos h]
theorem mData2 {k n : Int} (h : cont k = 2) : mData k n = decide (1 ≤ n ∧ n ≤ 8) := by unfold mData; rw [if_neg (by omega), if_pos h]
set_option maxHeartbeats 400000 in
theorem mayHaveData_any (k n : Int) (w : World) : Calls Tryz.prog 160 #[.int .i64 k, .int .i64 n] w fun e w' => e = .returned (.bool (mData k n)) ∧ w' = w := by
  have hC := contentOf_any k w
  rcases cont_cases k with h | h | h
  · rw [mData0 h]
    rw [h] at hC
    clear h
    by_cases hn : n = 0
    · rw [decide_eq_true hn]
      subst hn
      go_enter Tryz.func160, Tryz.ntmps160
      go_wp2_with (go_at_call 191; refine hC.mono ?_; rintro e w' ⟨rfl, rfl⟩)
      go_ret
      exact ⟨rfl, rfl⟩
    · rw [decide_eq_false hn]
      have hq : (n == 0) = false := by simpa using hn
      go_enter Tryz.func160, Tryz.ntmps160
      go_wp2_with (go_at_call 191; refine hC.mono ?_; rintro e w' ⟨rfl, rfl⟩)
      go_ret
      exact ⟨rfl, rfl⟩
  · rw [mData1 h]
    rw [h] at hC
    clear h
    by_cases hn : n = 4
    · rw [decide_eq_true hn]
      subst hn
      go_enter Tryz.func160, Tryz.ntmps160
      go_wp2_with (go_at_call 191; refine hC.mono ?_; rintro e w' ⟨rfl, rfl⟩)
      go_ret
      exact ⟨rfl, rfl⟩
    · rw [decide_eq_false hn]
      have hq : (n == 4) = false := by simpa using hn
      go_enter Tryz.func160, Tryz.ntmps160
      go_wp2_with (go_at_call 191; refine hC.mono ?_; rintro e w' ⟨rfl, rfl⟩)
      go_ret
      exact ⟨rfl, rfl⟩
  · rw [mData2 h]
    rw [h] at hC
    clear h
    by_cases hn : 1 ≤ n
    · by_cases hn2 : n ≤ 8
      · rw [decide_eq_true ⟨hn, hn2⟩]
        have hq : decide (n ≤ 8) = true := decide_eq_true hn2
        go_enter Tryz.func160, Tryz.ntmps160
        go_wp2_with (go_at_call 191; refine hC.mono ?_; rintro e w' ⟨rfl, rfl⟩)
        go_ret
        exact ⟨rfl, rfl⟩
      · rw [decide_eq_false (by omega)]
        have hq : decide (n ≤ 8) = false := decide_eq_false hn2
        go_enter Tryz.func160, Tryz.ntmps160
        go_wp2_with (go_at_call 191; refine hC.mono ?_; rintro e w' ⟨rfl, rfl⟩)
        go_ret
        exact ⟨rfl, rfl⟩
    · rw [decide_eq_false (by omega)]
      have hq : decide (1 ≤ n) = false := decide_eq_false hn
      go_enter Tryz.func160, Tryz.ntmps160
      go_wp2_with (go_at_call 191; refine hC.mono ?_; rintro e w' ⟨rfl, rfl⟩)
      go_ret
      exact ⟨rfl, rfl⟩
set_option maxHeartbeats 400000 in
theorem mayHaveSession_any (k : Int) (s : Nat) (w : World) : Calls Tryz.prog 161 #[.int .i64 k, .int .u32 s] w fun e w' => e = .returned (.bool (mSess k s)) ∧ w' = w := by
  by_cases h1 : k = 1
  · subst h1
    rw [show mSess 1 s = decide ((s : Int) = 0) from rfl]
    by_cases hs : (s : Int) = 0
    · rw [decide_eq_true hs, hs]
      go_enter Tryz.func161, Tryz.ntmps161
      go_wp2
      go_ret
      exact ⟨rfl, rfl⟩
    · rw [decide_eq_false hs]
      have hq : ((s : Int) == 0) = false := by simpa using hs
      go_enter Tryz.func161, Tryz.ntmps161
      go_wp2
      go_ret
      exact ⟨rfl, rfl⟩
  · by_cases h2 : k = 22
    · subst h2
      go_enter Tryz.func161, Tryz.ntmps161
      go_wp2
      go_ret
      exact ⟨rfl, rfl⟩
    · rw [show mSess k s = decide ((s : Int) ≠ 0) by unfold mSess; rw [if_neg h1, if_neg h2]]
      by_cases hs : (s : Int) = 0
      · rw [decide_eq_false (fun e => e hs), hs]
        go_enter Tryz.func161, Tryz.ntmps161
        go_wp2
        go_ret
        exact ⟨rfl, rfl⟩
      · rw [decide_eq_true hs]
        have hq : ((s : Int) != 0) = true := by simpa using hs
        go_enter Tryz.func161, Tryz.ntmps161
        go_wp2
        go_ret
        exact ⟨rfl, rfl⟩
set_option maxHeartbeats 400000 in
theorem hasNumber_any (k : Int) (w : World) : Calls Tryz.prog 162 #[.int .i64 k] w fun e w' => e = .returned (.bool (hNum k)) ∧ w' = w := by
  have hC := contentOf_any k w
  by_cases h2 : cont k = 2
  · rw [show hNum k = true from decide_eq_true (Or.inl h2)]
    rw [h2] at hC
    clear h2
    go_enter Tryz.func162, Tryz.ntmps162
    go_wp2_with (go_at_call 191; refine hC.mono ?_; rintro e w' ⟨rfl, rfl⟩)
    go_ret
    exact ⟨rfl, rfl⟩
  · have hc2 : ((cont k : Int) == 2) = false := by simp; omega
    by_cases h5 : k = 5
    · subst h5
      rw [show hNum 5 = true from rfl]
      go_enter Tryz.func162, Tryz.ntmps162
      go_wp2_with (go_at_call 191; refine hC.mono ?_; rintro e w' ⟨rfl, rfl⟩)
      go_ret
      exact ⟨rfl, rfl⟩
    · by_cases h21 : k = 21
      · subst h21
        rw [show hNum 21 = true from rfl]
        go_enter Tryz.func162, Tryz.ntmps162
        go_wp2_with (go_at_call 191; refine hC.mono ?_; rintro e w' ⟨rfl, rfl⟩)
        go_ret
        exact ⟨rfl, rfl⟩
      · rw [show hNum k = false from decide_eq_false (by omega)]
        have hq5 : (k == 5) = false := by simpa using h5
        have hq21 : (k == 21) = false := by simpa using h21
        generalize cont k = c at *
        go_enter Tryz.func162, Tryz.ntmps162
        go_wp2_with (go_at_call 191; refine hC.mono ?_; rintro e w' ⟨rfl, rfl⟩)
        go_ret
        exact ⟨rfl, rfl⟩
set_option maxHeartbeats 400000 in
theorem mostFlags_any (k : Int) (w : World) : Calls Tryz.prog 163 #[.int .i64 k] w fun e w' => e = .returned (.int .i64 (mFl k)) ∧ w' = w := by
  have hC := contentOf_any k w
  by_cases h2 : cont k = 2
  · rw [show mFl k = 15 from if_pos h2]
    rw [h2] at hC
    clear h2
    go_enter Tryz.func163, Tryz.ntmps163
    go_wp2_with (go_at_call 191; refine hC.mono ?_; rintro e w' ⟨rfl, rfl⟩)
    go_ret
    exact ⟨rfl, rfl⟩
  · have hc2 : ((cont k : Int) == 2) = false := by simp; omega
    rw [show mFl k = 0 from if_neg h2]
    generalize cont k = c at *
    go_enter Tryz.func163, Tryz.ntmps163
    go_wp2_with (go_at_call 191; refine hC.mono ?_; rintro e w' ⟨rfl, rfl⟩)
    go_ret
    exact ⟨rfl, rfl⟩
set_option maxHeartbeats 400000 in
theorem refData_any (k n : Int) (w : World) : Calls Tryz.prog 97 #[.int .i64 k, .int .i64 n] w fun e w' => e = .returned (.bool (mData k n)) ∧ w' = w := by
  by_cases h : k = 1 ∨ k = 2 ∨ k = 17
  · rw [mData1 (cont1 h)]
    by_cases hn : n = 4
    · rw [decide_eq_true hn]
      subst hn
      rcases h with rfl | rfl | rfl
      all_goals
        go_enter Tryz.func97, Tryz.ntmps97
        go_wp2
        go_ret
        exact ⟨rfl, rfl⟩
    · rw [decide_eq_false hn]
      have hq : (n == 4) = false := by simpa using hn
      rcases h with rfl | rfl | rfl
      all_goals
        go_enter Tryz.func97, Tryz.ntmps97
        go_wp2
        go_ret
        exact ⟨rfl, rfl⟩
  · by_cases h2 : k = 4 ∨ k = 20
    · rw [mData2 (cont2 h2)]
      clear h
      by_cases hn : 1 ≤ n
      · by_cases hn2 : n ≤ 8
        · rw [decide_eq_true ⟨hn, hn2⟩]
          have hq : decide (n ≤ 8) = true := decide_eq_true hn2
          rcases h2 with rfl | rfl
          all_goals
            go_enter Tryz.func97, Tryz.ntmps97
            go_wp2
            go_ret
            exact ⟨rfl, rfl⟩
        · rw [decide_eq_false (by omega)]
          have hq : decide (n ≤ 8) = false := decide_eq_false hn2
          rcases h2 with rfl | rfl
          all_goals
            go_enter Tryz.func97, Tryz.ntmps97
            go_wp2
            go_ret
            exact ⟨rfl, rfl⟩
      · rw [decide_eq_false (by omega)]
        have hq : decide (1 ≤ n) = false := decide_eq_false hn
        rcases h2 with rfl | rfl
        all_goals
          go_enter Tryz.func97, Tryz.ntmps97
          go_wp2
          go_ret
          exact ⟨rfl, rfl⟩
    · rw [mData0 (cont0 h h2)]
      have e1 : ¬ k = 1 := by omega
      have e2 : ¬ k = 2 := by omega
      have e3 : ¬ k = 17 := by omega
      have e4 : ¬ k = 4 := by omega
      have e5 : ¬ k = 20 := by omega
      clear h h2
      by_cases hn : n = 0
      · rw [decide_eq_true hn]
        subst hn
        go_enter Tryz.func97, Tryz.ntmps97
        go_wp2
        go_ret
        exact ⟨rfl, rfl⟩
      · rw [decide_eq_false hn]
        have hq : (n == 0) = false := by simpa using hn
        go_enter Tryz.func97, Tryz.ntmps97
        go_wp2
        go_ret
        exact ⟨rfl, rfl⟩
end Go.Proofs.YtmleiemlfogffaaGreat
