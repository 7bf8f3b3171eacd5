/- countOdd, refuse; newLife, goDown; begin. -/
import Derived.Test.YtmleiemlfogffaaGreatDw2
namespace Go.Proofs.YtmleiemlfogffaaGreat
set_option maxRecDepth 100000
open Go.RowKit

/-- What stands behind a call that answers a frame. -/
def Out (U : List Nat) (w w' : World) (d m g n mx : Nat) (P : Pm) (s : Sd) (f : Fm) (v : Value) : Prop :=
  ∃ U', Gr U w U' w' ∧ DV w' d m g n mx P U' s ∧ Fr w' w.heap.size v f ∧ ∀ k, v.ownBlock = some k → k ∉ U'
theorem DV.ult {w : World} {d m g n mx : Nat} {P : Pm} {U : List Nat} {s : Sd} (h : DV w d m g n mx P U s) (k : Nat) (hk : k ∈ U) : k < w.heap.size := by
  obtain ⟨B, h⟩ := h
  exact h.ltU k hk
theorem Fr.ge {w : World} {M : Nat} {v : Value} {f : Fm} (h : Fr w M v f) (k : Nat) (hk : v.ownBlock = some k) : M ≤ k := by
  rcases h.2 with hn | ⟨g', cap', cur', rfl, hg', _⟩
  · rw [hn.1] at hk; cases hk
  · cases hk; exact hg'
theorem Out.mk {U U1 : List Nat} {w w1 w2 : World} {d m g n mx : Nat} {P : Pm} {s : Sd} {f : Fm} {v : Value} (h : Gr U w U1 w1) (x : DV w1 d m g n mx P U1 s) (hf : Fr w2 w1.heap.size v f) (hb : Below w1.heap.size w1 w2) : Out U w w2 d m g n mx P s f v :=
  ⟨U1, h.trans (Gr.below hb), x.below hb, own_base hf h.off.size, fun k hk hm => by have := x.ult k hm; have := hf.ge k hk; omega⟩
theorem Out.pre {U U1 : List Nat} {w w1 w2 : World} {d m g n mx : Nat} {P : Pm} {s : Sd} {f : Fm} {v : Value} (h : Gr U w U1 w1) (x : Out U1 w1 w2 d m g n mx P s f v) : Out U w w2 d m g n mx P s f v := by
  obtain ⟨U', g2, x2, f2, k2⟩ := x
  exact ⟨U', h.trans g2, x2, own_base f2 h.off.size, k2⟩
theorem Out.none_ {U U1 : List Nat} {w w1 : World} {d m g n mx : Nat} {P : Pm} {s : Sd} (h : Gr U w U1 w1) (x : DV w1 d m g n mx P U1 s) : Out U w w1 d m g n mx P s fm0 (.slice none 0 0) :=
  ⟨U1, h, x, own_nil _ _ _, fun k hk => by cases hk⟩
set_option maxHeartbeats 1600000 in
theorem countOdd_any (d m g n mx : Nat) (P : Pm) (U : List Nat) (s : Sd) (w : World) (h : DV w d m g n mx P U s) (hs : s.st ≠ 6) (ho : s.od < 4) (hL : s.L.length < 900000) :
    Calls Tryz.prog 165 #[.pointer (some ⟨d, 0, none⟩)] w fun e w' => e = .returned (.tuple #[]) ∧ Hid (∃ U', Gr U w U' w' ∧ DV w' d m g n mx P U' (dodd s)) := by
  obtain ⟨B, h⟩ := h
  have c11 := h.cells.2.2.2.2.2.2.2.2.2.2.2.1
  have c15 := h.cells.2.2.2.2.2.2.2.2.2.2.2.2.2.2.2.1
  have z15 := h.fz 15
  have hI := inSession_any d s.st w c11
  unfold dodd
  by_cases hb : dbusy s = true
  · rw [if_pos hb]
    rw [show decide (s.st = 2 ∨ s.st = 3 ∨ s.st = 4) = true from hb] at hI
    obtain ⟨od1, hod⟩ : ∃ k, s.od + 1 = k := ⟨_, rfl⟩
    rw [hod]
    have o1 := Off.setCell d 15 w (.int .i64 (od1 : Int))
    have x1 := h.own o1 (s' := { s with od := od1 }) (heap_setCell_same _ _ _ _ _ _ h.dev) rfl rfl rfl rfl rfl id
    have g1 : Gr U w U (w.setCell ⟨d, 15, none⟩ (.int .i64 (od1 : Int))) := Gr.same o1 (by simp [h.kd.2])
    have e1 : (s.od : Int) + 1 = (od1 : Int) := by omega
    clear hod
    by_cases h4 : od1 < 4
    · rw [if_pos h4]
      have h4' : (od1 : Int) < 4 := by omega
      have H : Hid (_) := And.intro g1 x1
      clear h hb o1 x1 g1 hL h4 hs
      go_enter Tryz.func165, Tryz.ntmps165
      go_wp2_with (go_at_call 193; refine hI.mono ?_; rintro e w' ⟨rfl, hw⟩; have hw := hw.symm; subst hw)
      all_goals
        refine bodyPost_ret (results_none rfl _ _ _) rfl ?_
        exact ⟨rfl, U, H.out.1, B, H.out.2⟩
    · rw [if_neg h4]
      have h4' : ¬ (od1 : Int) < 4 := by omega
      by_cases hr : s.st = 4
      · rw [if_pos hr]
        have hr' : ((s.st : Nat) : Int) = 4 := by omega
        have hT := dvlatch_any d m g n mx P U { s with od := od1 } 131 _ ⟨B, x1⟩ (by omega) (by decide) hL
        rw [hr] at c11
        have H : Hid (_) := g1
        have HS : Hid (_) := hs
        clear h hb o1 x1 g1 hL h4 hr' hs
        go_enter Tryz.func165, Tryz.ntmps165
        go_wp2_with (first | (go_at_call 193; refine hI.mono ?_; rintro e w' ⟨rfl, hw⟩; have hw := hw.symm; subst hw) | (go_at_call 70; refine hT.mono ?_; rintro e w2 ⟨rfl, h2⟩))
        obtain ⟨U2, g2, x2⟩ := h2.out
        have hst : (dlatch { s with od := od1 } 131).st ≠ 6 := by unfold dlatch; split <;> exact HS.out
        have hV := leave_any d m g n mx P U2 _ 1 w2 x2 hst
        have H2 : Hid (_) := H.out.trans g2
        clear hT hI h2 g2 x2 c11 c15 z15 H HS hst
        go_wp2_with (go_at_call 194; refine hV.mono ?_; rintro e w3 ⟨rfl, h3⟩)
        go_end0
        obtain ⟨U3, g3, x3⟩ := h3.out
        exact ⟨rfl, U3, H2.out.trans g3, x3⟩
      · rw [if_neg hr]
        have hr' : (((s.st : Nat) : Int) == 4) = false := by simp; omega
        have hV := leave_any d m g n mx P U { s with od := od1 } 1 _ ⟨B, x1⟩ hs
        have H : Hid (_) := g1
        clear h hb o1 x1 g1 hL h4 hr hs
        go_enter Tryz.func165, Tryz.ntmps165
        go_wp2_with (first | (go_at_call 193; refine hI.mono ?_; rintro e w' ⟨rfl, hw⟩; have hw := hw.symm; subst hw) | (go_at_call 194; refine hV.mono ?_; rintro e w3 ⟨rfl, h3⟩))
        go_end0
        obtain ⟨U3, g3, x3⟩ := h3.out
        exact ⟨rfl, U3, H.out.trans g3, x3⟩
  · rw [if_neg hb]
    have hb' : dbusy s = false := by simpa using hb
    rw [show decide (s.st = 2 ∨ s.st = 3 ∨ s.st = 4) = false from hb'] at hI
    have H : Hid (_) := h
    clear h hb hb' c15 z15
    go_enter Tryz.func165, Tryz.ntmps165
    go_wp2_with (go_at_call 193; refine hI.mono ?_; rintro e w' ⟨rfl, hw⟩; have hw := hw.symm; subst hw)
    all_goals
      refine bodyPost_ret (results_none rfl _ _ _) rfl ?_
      exact ⟨rfl, U, Gr.refl _ _, B, H.out⟩
set_option maxHeartbeats 1600000 in
theorem refuse_any (d m g n mx : Nat) (P : Pm) (U : List Nat) (s : Sd) (x : Int) (w : World) (h : DV w d m g n mx P U s) (hs : s.st ≠ 6) (ho : s.od < 4) (hL : s.L.length < 900000) :
    Calls Tryz.prog 138 #[.pointer (some ⟨d, 0, none⟩), .int .i64 x] w fun e w' => ∃ v, e = .returned (.tuple #[v, .int .i64 x]) ∧ Hid (Out U w w' d m g n mx P (dodd s) (dnone P (dodd s)) v) := by
  have hC := countOdd_any d m g n mx P U s w h hs ho hL
  clear h hs ho hL
  go_enter Tryz.func138, Tryz.ntmps138
  go_wp2_with (go_at_call 165; refine hC.mono ?_; rintro e w2 ⟨rfl, h2⟩)
  obtain ⟨U2, g2, x2⟩ := h2.out
  have hN := none_any d m g n mx P U2 _ w2 x2
  have H : Hid (_) := And.intro g2 x2
  clear hC h2 g2 x2
  go_wp2_with (go_at_call 167; refine hN.mono ?_; rintro e w3 ⟨v, rfl, h3⟩)
  go_ret2
  exact ⟨v, rfl, Out.mk H.out.1 H.out.2 h3.out.1 h3.out.2⟩

end Go.Proofs.YtmleiemlfogffaaGreat
