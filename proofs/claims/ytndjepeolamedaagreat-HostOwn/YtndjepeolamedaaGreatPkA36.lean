/- Part 37 of the texts on which the proofs of layer 13 rest: contracts of Go functions. -/
import Derived.Test.YtndjepeolamedaaGreatPkA09
import Derived.Test.YtndjepeolamedaaGreatPkA11
import Derived.Test.YtndjepeolamedaaGreatPkA14
import Derived.Test.YtndjepeolamedaaGreatPkA35
namespace Go.Proofs.YtndjepeolamedaaGreat
set_option maxRecDepth 100000
open Go.RowKit
set_option maxHeartbeats 3200000 in
theorem hmiss_any (d : Nat) (P : Pm) (U : List Nat) (s : Sh) (w : World) (h : HV w d P U s) (ho : s.ms < 4) (hL : s.L.length < 900000) :
    Calls Tryz.prog 89 #[.pointer (some ⟨d, 0, none⟩)] w fun e w' => e = .returned (.tuple #[]) ∧ Hid (∃ U', Gr U w U' w' ∧ HV w' d P U' (hmiss s)) := by
  obtain ⟨B, h⟩ := h
  have c8 := h.c8
  have c12 := h.c12
  have c13 := h.c13
  have z13 := h.fz 13
  unfold hmiss
  by_cases h1 : s.st = 1
  · rw [if_pos (.inl h1)]
    rw [h1] at c8
    have H : Hid (_) := h
    clear h h1 c12 c13 z13
    go_enter Tryz.func89, Tryz.ntmps89
    go_wp2_with fail
    refine bodyPost_ret (results_none rfl _ _ _) rfl ?_
    exact ⟨rfl, U, Gr.refl _ _, B, H.out⟩
  · have n1 : ((s.st : Int) == 1) = false := by simp; omega
    have n1' : ((s.st : Int) = 1) = False := by simp; omega
    by_cases hw : s.wt = false
    · rw [if_pos (.inr hw)]
      rw [hw] at c12
      have H : Hid (_) := h
      clear h h1 c13 z13
      go_enter Tryz.func89, Tryz.ntmps89
      go_wp2_with fail
      refine bodyPost_ret (results_none rfl _ _ _) rfl ?_
      exact ⟨rfl, U, Gr.refl _ _, B, H.out⟩
    · rw [if_neg (by simp [h1, hw])]
      have hw' : s.wt = true := by simpa using hw
      rw [hw'] at c12
      obtain ⟨m1, hm1⟩ : ∃ k, s.ms + 1 = k := ⟨_, rfl⟩
      rw [hm1]
      have o1 := Off.setCell d 13 w (.int .i64 (m1 : Int))
      have x1 := h.own o1 (s' := { s with ms := m1 }) (heap_setCell_same _ _ _ _ _ _ h.dev) rfl rfl rfl rfl
      have g1 : Gr U w U (w.setCell ⟨d, 13, none⟩ (.int .i64 (m1 : Int))) := Gr.same o1 (by simp [h.kd.2])
      have i1 : (s.ms : Int) + 1 = (m1 : Int) := by omega
      have i2 : IntKind.i64.wrap ((s.ms : Int) + 1) = (m1 : Int) := by rw [IntKind.wrap_i64]; omega
      clear hm1
      by_cases h4 : m1 < 4
      · rw [if_pos h4]
        have h4' : (m1 : Int) < 4 := by omega
        have H : Hid (_) := And.intro g1 x1
        clear h h1 o1 x1 g1 hL h4 hw hw'
        go_enter Tryz.func89, Tryz.ntmps89
        go_wp2_with fail
        refine bodyPost_ret (results_none rfl _ _ _) rfl ?_
        exact ⟨rfl, U, H.out.1, B, H.out.2⟩
      · rw [if_neg h4]
        have h4' : ¬ (m1 : Int) < 4 := by omega
        by_cases hr : s.st = 4
        · rw [if_pos hr]
          have hT := hlatch_any d P U { s with ms := m1 } 131 _ ⟨B, x1⟩ (by omega) (by decide) hL
          rw [hr] at c8
          have H : Hid (_) := g1
          clear h h1 o1 x1 g1 hL h4 hw hw' hr n1 n1'
          go_enter Tryz.func89, Tryz.ntmps89
          go_wp2_with (go_at_call 145; refine hT.mono ?_; rintro e w2 ⟨rfl, h2⟩)
          obtain ⟨U2, g2, x2⟩ := h2.out
          have hV := hgive_any d P U2 _ w2 x2
          have H2 : Hid (_) := H.out.trans g2
          clear hT h2 g2 x2 c8 c12 c13 z13 H
          go_wp2_with (go_at_call 146; refine hV.mono ?_; rintro e w3 ⟨rfl, h3⟩)
          go_end0
          obtain ⟨U3, g3, x3⟩ := h3.out
          exact ⟨rfl, U3, H2.out.trans g3, x3⟩
        · rw [if_neg hr]
          have hr' : (((s.st : Nat) : Int) == 4) = false := by simp; omega
          have hV := hgive_any d P U { s with ms := m1 } _ ⟨B, x1⟩
          have H : Hid (_) := g1
          clear h h1 o1 x1 g1 hL h4 hr hw hw'
          go_enter Tryz.func89, Tryz.ntmps89
          go_wp2_with (go_at_call 146; refine hV.mono ?_; rintro e w3 ⟨rfl, h3⟩)
          go_end0
          obtain ⟨U3, g3, x3⟩ := h3.out
          exact ⟨rfl, U3, H.out.trans g3, x3⟩
def OutH (U : List Nat) (w w' : World) (d : Nat) (P : Pm) (s : Sh) (f : Fm) (v : Value) : Prop :=
  ∃ U', Gr U w U' w' ∧ HV w' d P U' s ∧ Fr w' w.heap.size v f ∧ ∀ k, v.ownBlock = some k → k ∉ U'
theorem hmiss_L (s : Sh) : (hmiss s).L.length ≤ s.L.length + 1 := by
  unfold hmiss
  split
  · omega
  · split
    · show s.L.length ≤ _; omega
    · show (if s.st = 4 then hlatch { s with ms := s.ms + 1 } 131 else { s with ms := s.ms + 1 }).L.length ≤ _
      split
      · unfold hlatch hnote
        split <;> simp
      · show s.L.length ≤ _; omega
theorem hmiss_st (s : Sh) (h : 1 ≤ s.st ∧ s.st ≤ 4) : 1 ≤ (hmiss s).st ∧ (hmiss s).st ≤ 4 ∧ ((hmiss s).st = 4 → s.st = 4 ∧ (hmiss s).sn = s.sn) := by
  unfold hmiss
  split
  · exact ⟨h.1, h.2, fun e => ⟨e, rfl⟩⟩
  · split
    · exact ⟨h.1, h.2, fun e => ⟨e, rfl⟩⟩
    · exact ⟨by show 1 ≤ 1; omega, by show 1 ≤ 4; omega, fun e => by have e : (1 : Nat) = 4 := e; omega⟩
set_option maxHeartbeats 6400000 in
theorem hsend_any (d : Nat) (P : Pm) (U : List Nat) (s : Sh) (w : World) (h : HV w d P U s) (ho : s.ms < 4) (h5 : 1 ≤ s.st ∧ s.st ≤ 5) (hsn : s.st = 4 → s.sn + 1 < 4294967296) (hL : s.L.length < 700000) :
    Calls Tryz.prog 38 #[.pointer (some ⟨d, 0, none⟩)] w fun e w' => ∃ v, e = .returned (.tuple #[v, .int .i64 (hsendE s)]) ∧ Hid (OutH U w w' d P (hsendS P s) (hsendF P s) v) := by
  obtain ⟨B, x⟩ := id h
  have c8 := x.c8
  unfold hsendE hsendS hsendF
  by_cases hd : s.st = 5
  · rw [if_pos hd, if_pos hd, if_pos hd]
    rw [hd] at c8
    have H : Hid (_) := h
    clear h x ho h5 hsn hL hd
    go_enter Tryz.func38, Tryz.ntmps38
    go_wp2_with fail
    go_ret2
    exact ⟨_, rfl, U, Gr.refl _ _, H.out, own_nil _ _ _, fun k hk => by cases hk⟩
  · rw [if_neg hd, if_neg hd, if_neg hd]
    have n5 : ((s.st : Int) == 5) = false := by simp; omega
    have hM := hmiss_any d P U s w h ho (by omega)
    have hq := hmiss_st s ⟨h5.1, by omega⟩
    have hl := hmiss_L s
    have hN : ∀ w2 U2, HV w2 d P U2 (hmiss s) → Calls Tryz.prog 90 #[.pointer (some ⟨d, 0, none⟩)] w2 fun e w' => ∃ k ss num fl a len cap bs, e = .returned (.agg #[.int .i64 ((k : Nat) : Int), .int .u32 0, .int .u32 ((ss : Nat) : Int), .int .u32 ((num : Nat) : Int), .int .i64 ((fl : Nat) : Int), .slice a len cap]) ∧ Hid (Un U2 w2 w' d P (hnext P (hmiss s)).1 (hnext P (hmiss s)).2 k ss num fl a len cap bs) := by
      intro w2 U2 v2
      refine hnext_any d P U2 (hmiss s) w2 v2 (fun e => ?_) ⟨hq.1, by omega⟩ (by omega)
      rcases e with e | e
      · rw [(hq.2.2 e).2]; exact hsn (hq.2.2 e).1
      · omega
    generalize hnext P (hmiss s) = R at *
    have HN : Hid (_) := hN
    clear h x ho h5 hsn hL hd hq hl hN
    go_enter Tryz.func38, Tryz.ntmps38
    go_wp2_with fail
    refine hM.mono ?_
    rintro e w2 ⟨rfl, h2⟩
    obtain ⟨U2, g2, v2⟩ := h2.out
    have hN := HN.out w2 U2 v2
    have H2 : Hid (_) := g2
    clear hM h2 g2 v2 HN c8 n5
    go_wp2_with fail
    refine hN.mono ?_
    rintro e w3 ⟨k, ss, num, fl, a, len, cap, bs, rfl, h3⟩
    obtain ⟨⟨U3, g3, ⟨B3, x3⟩, far⟩, fm, row⟩ := h3.out
    have hb4 : ∀ ob, Below w3.heap.size w3 (w3.alloc ob) := fun ob => (Below.refl _ _).alloc (Nat.le_refl _) _
    have hU3 : w3.heap.size ∉ U3 := fun hm => by have := x3.ltU _ hm; omega
    have hdn : ¬ d = w3.heap.size := fun e => hU3 (by rw [← e]; exact x3.kd.2)
    have hdn' : ¬ w3.heap.size = d := fun e => hdn e.symm
    have c0 : ∀ ob, (w3.alloc ob).cell? ⟨d, 0, none⟩ = some (.int .u32 (P.c : Nat)) := fun ob => (x3.newd (Off.of_below (hb4 ob))).c0
    have c12 : ∀ ob, (w3.alloc ob).cell? ⟨d, 12, none⟩ = some (.bool R.1.wt) := fun ob => (x3.newd (Off.of_below (hb4 ob))).c12
    have z12 : ∀ ob, (w3.alloc ob).frozen? ⟨d, 12, none⟩ = false := fun ob => (x3.newd (Off.of_below (hb4 ob))).fz 12
    have hX : ∀ ob, HX ((w3.alloc ob).setCell ⟨d, 12, none⟩ (.bool true)) d P U3 { R.1 with wt := true } B3 ∧ Gr U3 w3 U3 ((w3.alloc ob).setCell ⟨d, 12, none⟩ (.bool true)) ∧ Row8 ((w3.alloc ob).setCell ⟨d, 12, none⟩ (.bool true)) a len cap bs := by
      intro ob
      have x5 := x3.newd (Off.of_below (hb4 ob))
      have o6 := Off.setCell d 12 (w3.alloc ob) (.bool true)
      exact ⟨x5.own o6 (s' := { R.1 with wt := true }) (heap_setCell_same _ _ _ _ _ _ x5.dev) rfl rfl rfl rfl, (Gr.below (hb4 ob)).trans (Gr.same o6 (by simp [x3.kd.2])), (row.below (hb4 ob)).off o6 (fun y hy => by simpa using (far y hy).1)⟩
    have hE : ∀ wx, Row8 wx a len cap bs → Calls Tryz.prog 91 #[.agg #[.int .i64 (k : Nat), .int .u32 (P.c : Nat), .int .u32 (ss : Nat), .int .u32 (num : Nat), .int .i64 (fl : Nat), .slice a len cap]] wx fun e w' => ∃ v E, e = .returned (.tuple #[v, .int .i64 E]) ∧ Hid (Fr w' wx.heap.size v R.2 ∧ Below wx.heap.size wx w') := by
      intro wx hr
      rw [fm]
      unfold encF
      by_cases hE : LW k P.c ss num fl len len = 0
      · rw [if_pos hE]
        refine (encode_good k P.c ss num fl a len cap bs wx hr hE).mono ?_
        rintro e w' ⟨v, rfl, h4⟩
        exact ⟨v, 0, rfl, h4.out⟩
      · rw [if_neg hE]
        refine (encode_bad k P.c ss num fl a len cap wx hE).mono ?_
        rintro e w' ⟨rfl, h4⟩
        exact ⟨_, _, rfl, own_nil _ _ _, h4⟩
    have hEX := fun ob => hE _ (hX ob).2.2
    have H3 : Hid (_) := And.intro (H2.out.trans g3) hX
    clear hN h3 g3 x3 far fm row hb4 hU3 hX H2 hE
    go_wp2_with fail
    refine (hEX _).mono ?_
    rintro e w5 ⟨v, E, rfl, h5⟩
    have H5 : Hid (OutH U w w5 d P { R.1 with wt := true } R.2 v) := by
      obtain ⟨g3, hX⟩ := H3.out
      obtain ⟨x4, g4, _⟩ := hX (.cells #[.int .i64 (k : Nat), .int .u32 (P.c : Nat), .int .u32 (ss : Nat), .int .u32 (num : Nat), .int .i64 (fl : Nat), .slice a len cap] 67)
      obtain ⟨f5, b5⟩ := h5.out
      have gg := g3.trans g4
      exact ⟨U3, gg.trans (Gr.below b5), ⟨B3, x4.newd (Off.of_below b5)⟩, own_base f5 gg.off.size, fun j hj hm => by have := x4.ltU j hm; have := Fr.ge f5 j hj; omega⟩
    clear hEX c0 c12 z12 H3 h5
    go_wp2_with fail
    go_ret2
    exact ⟨v, rfl, H5⟩
end Go.Proofs.YtndjepeolamedaaGreat
namespace Go.Proofs.YtndjepeolamedaaGreat
set_option maxRecDepth 100000
open Go.RowKit
theorem bool_ret {a b : Bool} (h : a = b) : Ending.returned (Value.bool a) = Ending.returned (Value.bool b) := by rw [h]
set_option maxHeartbeats 6400000 in
theorem hawaits_any (d : Nat) (P : Pm) (U : List Nat) (s : Sh) (k c ss num fl : Nat) (a : Option Addr) (len cap : Nat) (w : World) (h : HV w d P U s) :
    Calls Tryz.prog 161 #[.pointer (some ⟨d, 0, none⟩), .agg #[.int .i64 (k : Nat), .int .u32 (c : Nat), .int .u32 (ss : Nat), .int .u32 (num : Nat), .int .i64 (fl : Nat), .slice a len cap]] w fun e w' => e = .returned (.bool (hawaits P s k num len)) ∧ Below w.heap.size w w' := by
  have hb : ∀ ob, Below w.heap.size w (w.alloc ob) := fun ob => (Below.refl _ _).alloc (Nat.le_refl _) _
  have hU : w.heap.size ∉ U := fun hm => by have := HV.ult h _ hm; omega
  obtain ⟨B, x⟩ := h
  have hdn : ¬ d = w.heap.size := fun e => hU (by rw [← e]; exact x.kd.2)
  have hdn' : ¬ w.heap.size = d := fun e => hdn e.symm
  have c2 : ∀ ob, (w.alloc ob).cell? ⟨d, 2, none⟩ = some (.int .i64 (P.i : Nat)) := fun ob => (x.newd (Off.of_below (hb ob))).c2
  have c4 : ∀ ob, (w.alloc ob).cell? ⟨d, 4, none⟩ = some (.int .u32 (P.n : Nat)) := fun ob => (x.newd (Off.of_below (hb ob))).c4
  have c8 : ∀ ob, (w.alloc ob).cell? ⟨d, 8, none⟩ = some (.int .i64 (s.st : Nat)) := fun ob => (x.newd (Off.of_below (hb ob))).c8
  have c10 : ∀ ob, (w.alloc ob).cell? ⟨d, 10, none⟩ = some (.int .u32 (s.nm : Nat)) := fun ob => (x.newd (Off.of_below (hb ob))).c10
  have HB : Hid (_) := hb
  clear hb x hU
  by_cases h4 : s.st = 4
  · rw [h4] at c8
    have hA : hawaits P s k num len = decide (k = 20 ∧ (s.nm < num ∧ num < P.n) ∧ len = P.i ∨ k = 21 ∧ s.nm < num ∧ num = P.n) := by
      unfold hawaits
      rw [Bool.eq_iff_iff]
      simp only [decide_eq_true_eq]
      omega
    rw [hA]
    clear hA h4
    by_cases hn : s.nm < num
    · have i1 : (s.nm : Int) < (num : Int) := by omega
      by_cases k20 : k = 20
      · subst k20
        by_cases hc : num < P.n
        · have i2 : (num : Int) < (P.n : Int) := by omega
          have HH : Hid (_) := And.intro hn hc
          go_enter Tryz.func161, Tryz.ntmps161
          go_wp2_with fail
          repeat (go_quiet (fail); go_wp2_with fail)
          go_ret
          refine ⟨bool_ret ?_, ?_⟩
          · have := HH.out
            rw [Bool.eq_iff_iff]
            simp
            omega
          · repeat (first | with_reducible refine below_drewN ?_ _ | with_reducible refine Below.drew ?_ | exact HB.out _)
        · have i2 : ¬ (num : Int) < (P.n : Int) := by omega
          have HH : Hid (_) := And.intro hn hc
          go_enter Tryz.func161, Tryz.ntmps161
          go_wp2_with fail
          repeat (go_quiet (fail); go_wp2_with fail)
          go_ret
          refine ⟨bool_ret ?_, ?_⟩
          · have := HH.out
            rw [Bool.eq_iff_iff]
            simp
            omega
          · repeat (first | with_reducible refine below_drewN ?_ _ | with_reducible refine Below.drew ?_ | exact HB.out _)
      · have j20 : ((k : Int) == 20) = false := by simp; omega
        by_cases k21 : k = 21
        · subst k21
          have HH : Hid (_) := hn
          clear k20 j20
          go_enter Tryz.func161, Tryz.ntmps161
          go_wp2_with fail
          repeat (go_quiet (fail); go_wp2_with fail)
          go_ret
          refine ⟨bool_ret ?_, ?_⟩
          · have := HH.out
            rw [Bool.eq_iff_iff]
            simp
            omega
          · repeat (first | with_reducible refine below_drewN ?_ _ | with_reducible refine Below.drew ?_ | exact HB.out _)
        · have j21 : ((k : Int) == 21) = false := by simp; omega
          have HH : Hid (_) := And.intro k20 k21
          clear k20 k21
          by_cases k18 : k = 18
          · subst k18
            go_enter Tryz.func161, Tryz.ntmps161
            go_wp2_with fail
            repeat (go_quiet (fail); go_wp2_with fail)
            go_ret
            refine ⟨bool_ret (by simp), ?_⟩
            repeat (first | with_reducible refine below_drewN ?_ _ | with_reducible refine Below.drew ?_ | exact HB.out _)
          · have j18 : ((k : Int) == 18) = false := by simp; omega
            by_cases k19 : k = 19
            · subst k19
              go_enter Tryz.func161, Tryz.ntmps161
              go_wp2_with fail
              repeat (go_quiet (fail); go_wp2_with fail)
              go_ret
              refine ⟨bool_ret (by simp), ?_⟩
              repeat (first | with_reducible refine below_drewN ?_ _ | with_reducible refine Below.drew ?_ | exact HB.out _)
            · have j19 : ((k : Int) == 19) = false := by simp; omega
              clear k18 k19
              go_enter Tryz.func161, Tryz.ntmps161
              go_wp2_with fail
              repeat (go_quiet (fail); go_wp2_with fail)
              go_ret
              refine ⟨bool_ret ?_, ?_⟩
              · have := HH.out
                simp
                omega
              · repeat (first | with_reducible refine below_drewN ?_ _ | with_reducible refine Below.drew ?_ | exact HB.out _)
    · have i1 : ¬ (s.nm : Int) < (num : Int) := by omega
      have hA : decide (k = 20 ∧ (s.nm < num ∧ num < P.n) ∧ len = P.i ∨ k = 21 ∧ s.nm < num ∧ num = P.n) = false := decide_eq_false (by omega)
      rw [hA]
      clear hA
      have hk : k = 18 ∨ k = 19 ∨ k = 20 ∨ k = 21 ∨ (((k : Int) == 18) = false ∧ ((k : Int) == 19) = false ∧ ((k : Int) == 20) = false ∧ ((k : Int) == 21) = false) := by simp; omega
      rcases hk with rfl | rfl | rfl | rfl | ⟨j18, j19, j20, j21⟩
      all_goals
        go_enter Tryz.func161, Tryz.ntmps161
        go_wp2_with fail
        repeat (go_quiet (fail); go_wp2_with fail)
        go_ret
        refine ⟨bool_ret (by first | rfl | simp), ?_⟩
        repeat (first | with_reducible refine below_drewN ?_ _ | with_reducible refine Below.drew ?_ | exact HB.out _)
  · have n4 : ((s.st : Int) == 4) = false := by simp; omega
    have hA : hawaits P s k num len = decide (k = 18 ∧ s.st = 2 ∨ k = 19 ∧ s.st = 3) := by
      unfold hawaits
      rw [Bool.eq_iff_iff]
      simp only [decide_eq_true_eq]
      omega
    rw [hA]
    clear hA h4
    have hk : k = 18 ∨ k = 19 ∨ k = 20 ∨ k = 21 ∨ ((((k : Int) == 18) = false ∧ ((k : Int) == 19) = false ∧ ((k : Int) == 20) = false ∧ ((k : Int) == 21) = false) ∧ k ≠ 18 ∧ k ≠ 19) := by simp; omega
    rcases hk with rfl | rfl | rfl | rfl | ⟨⟨j18, j19, j20, j21⟩, j1, j2⟩
    · go_enter Tryz.func161, Tryz.ntmps161
      go_wp2_with fail
      repeat (go_quiet (fail); go_wp2_with fail)
      go_ret
      refine ⟨bool_ret ?_, ?_⟩
      · rw [Bool.eq_iff_iff]
        simp
        omega
      · repeat (first | with_reducible refine below_drewN ?_ _ | with_reducible refine Below.drew ?_ | exact HB.out _)
    · go_enter Tryz.func161, Tryz.ntmps161
      go_wp2_with fail
      repeat (go_quiet (fail); go_wp2_with fail)
      go_ret
      refine ⟨bool_ret ?_, ?_⟩
      · rw [Bool.eq_iff_iff]
        simp
        omega
      · repeat (first | with_reducible refine below_drewN ?_ _ | with_reducible refine Below.drew ?_ | exact HB.out _)
    · go_enter Tryz.func161, Tryz.ntmps161
      go_wp2_with fail
      repeat (go_quiet (fail); go_wp2_with fail)
      go_ret
      refine ⟨bool_ret (by simp), ?_⟩
      repeat (first | with_reducible refine below_drewN ?_ _ | with_reducible refine Below.drew ?_ | exact HB.out _)
    · go_enter Tryz.func161, Tryz.ntmps161
      go_wp2_with fail
      repeat (go_quiet (fail); go_wp2_with fail)
      go_ret
      refine ⟨bool_ret (by simp), ?_⟩
      repeat (first | with_reducible refine below_drewN ?_ _ | with_reducible refine Below.drew ?_ | exact HB.out _)
    · have HJ : Hid (_) := And.intro j1 j2
      clear j1 j2
      go_enter Tryz.func161, Tryz.ntmps161
      go_wp2_with fail
      repeat (go_quiet (fail); go_wp2_with fail)
      go_ret
      refine ⟨bool_ret ?_, ?_⟩
      · have := HJ.out
        simp
        omega
      · repeat (first | with_reducible refine below_drewN ?_ _ | with_reducible refine Below.drew ?_ | exact HB.out _)
set_option maxHeartbeats 6400000 in
theorem hoffer_any (d : Nat) (P : Pm) (U : List Nat) (s : Sh) (k c ss num fl : Nat) (a : Option Addr) (len cap : Nat) (bs : Nat → Nat) (w : World) (h : HV w d P U s) (hr : Row8 w a len cap bs) :
    Calls Tryz.prog 160 #[.pointer (some ⟨d, 0, none⟩), .agg #[.int .i64 (k : Nat), .int .u32 (c : Nat), .int .u32 (ss : Nat), .int .u32 (num : Nat), .int .i64 (fl : Nat), .slice a len cap]] w fun e w' => e = .returned (.int .i64 (hoffE P s k ss len bs)) ∧ Below w.heap.size w w' := by
  have hb : ∀ ob, Below w.heap.size w (w.alloc ob) := fun ob => (Below.refl _ _).alloc (Nat.le_refl _) _
  have hU : w.heap.size ∉ U := fun hm => by have := HV.ult h _ hm; omega
  obtain ⟨B, x⟩ := h
  have hdn : ¬ d = w.heap.size := fun e => hU (by rw [← e]; exact x.kd.2)
  have hdn' : ¬ w.heap.size = d := fun e => hdn e.symm
  have c0 : ∀ ob, (w.alloc ob).cell? ⟨d, 0, none⟩ = some (.int .u32 (P.c : Nat)) := fun ob => (x.newd (Off.of_below (hb ob))).c0
  have c1 : ∀ ob, (w.alloc ob).cell? ⟨d, 1, none⟩ = some (.int .i64 (P.o : Nat)) := fun ob => (x.newd (Off.of_below (hb ob))).c1
  have c2 : ∀ ob, (w.alloc ob).cell? ⟨d, 2, none⟩ = some (.int .i64 (P.i : Nat)) := fun ob => (x.newd (Off.of_below (hb ob))).c2
  have c3 : ∀ ob, (w.alloc ob).cell? ⟨d, 3, none⟩ = some (.int .i64 (P.t : Nat)) := fun ob => (x.newd (Off.of_below (hb ob))).c3
  have c4 : ∀ ob, (w.alloc ob).cell? ⟨d, 4, none⟩ = some (.int .u32 (P.n : Nat)) := fun ob => (x.newd (Off.of_below (hb ob))).c4
  have c9 : ∀ ob, (w.alloc ob).cell? ⟨d, 9, none⟩ = some (.int .u32 (s.ss : Nat)) := fun ob => (x.newd (Off.of_below (hb ob))).c9
  have HB : Hid (_) := hb
  have hG := fun ob n => pmatch_good P.c P.o P.i P.t P.n a len cap bs (((w.alloc ob).drewN n).drew) (hr.below (Below.drew (below_drewN (hb ob) n))) x.pok.c x.pok.n x.pok.ok (dsigned P len bs) rfl
  clear hb x hU hr
  unfold hoffE
  by_cases h17 : k = 17
  · subst h17
    by_cases hs : ss ≤ s.ss
    · rw [if_pos (.inr hs)]
      have i1 : (ss : Int) ≤ (s.ss : Int) := by omega
      clear hG
      go_enter Tryz.func160, Tryz.ntmps160
      go_wp2_with fail
      repeat (go_quiet (fail); go_wp2_with fail)
      go_ret
      refine ⟨rfl, ?_⟩
      repeat (first | with_reducible refine below_drewN ?_ _ | with_reducible refine Below.drew ?_ | exact HB.out _)
    · rw [if_neg (by omega)]
      have i1 : ¬ (ss : Int) ≤ (s.ss : Int) := by omega
      cases hg : dsigned P len bs
      all_goals
        rw [hg] at hG
        go_enter Tryz.func160, Tryz.ntmps160
        go_wp2_with fail
        go_quiet (fail)
        go_wp2_with fail
        have HB2 : Hid (∀ ob, Below w.heap.size w (((w.alloc ob).drewN nq).drew)) := fun ob => Below.drew (below_drewN (HB.out ob) nq)
        go_region_with (go_at_call 207; refine (hG _ nq).mono ?_; rintro e w3 ⟨rfl, b3⟩)
        all_goals
          have H3 : Hid (Below w.heap.size w w3) := (HB2.out _).trans (b3.mono (HB2.out _).size)
          clear hG b3 HB HB2 c0 c1 c2 c3 c4 c9
          go_wp2_with fail
          go_ret
          exact ⟨by first | rfl | simp, H3.out⟩
  · rw [if_pos (.inl h17)]
    have j17 : ((k : Int) != 17) = true := by simp; omega
    clear h17 hG
    go_enter Tryz.func160, Tryz.ntmps160
    go_wp2_with fail
    repeat (go_quiet (fail); go_wp2_with fail)
    go_ret
    refine ⟨rfl, ?_⟩
    repeat (first | with_reducible refine below_drewN ?_ _ | with_reducible refine Below.drew ?_ | exact HB.out _)
end Go.Proofs.YtndjepeolamedaaGreat
namespace Go.Proofs.YtndjepeolamedaaGreat
set_option maxRecDepth 100000
open Go.RowKit
def sw (P : Pm) : Pm := ⟨P.c, P.i, P.o, P.t, P.n⟩
theorem ten (b : Nat) (w : World) (x0 x1 x2 x3 x4 x5 x6 x7 x8 x9 : Value) : Off [b] w ((((((((((w.setCell ⟨b, 0, none⟩ x0).setCell ⟨b, 1, none⟩ x1).setCell ⟨b, 2, none⟩ x2).setCell ⟨b, 3, none⟩ x3).setCell ⟨b, 4, none⟩ x4).setCell ⟨b, 5, none⟩ x5).setCell ⟨b, 6, none⟩ x6).setCell ⟨b, 7, none⟩ x7).setCell ⟨b, 8, none⟩ x8).setCell ⟨b, 9, none⟩ x9) :=
  (((((((((Off.setCell b 0 w x0).trans (Off.setCell b 1 _ x1)).trans (Off.setCell b 2 _ x2)).trans (Off.setCell b 3 _ x3)).trans (Off.setCell b 4 _ x4)).trans (Off.setCell b 5 _ x5)).trans (Off.setCell b 6 _ x6)).trans (Off.setCell b 7 _ x7)).trans (Off.setCell b 8 _ x8)).trans (Off.setCell b 9 _ x9)
def zLifeH : Array Value := #[.pointer none, .pointer none, .int .i64 0, .int .u32 0, .int .u32 0, .int .u32 0, .bool false, .int .i64 0, .slice none 0 0, .bool false]
set_option maxHeartbeats 3200000 in
theorem hnewLife_any (P : Pm) (hP : Pok P) (w : World) :
    Calls Tryz.prog 78 #[.agg #[.int .u32 (P.c : Nat), .int .i64 (P.o : Nat), .int .i64 (P.i : Nat), .int .i64 (P.t : Nat), .int .u32 (P.n : Nat)]] w fun e w' => ∃ db vb vg ga, e = .returned (.agg #[.pointer (some ⟨db, 0, none⟩), .pointer (some ⟨vb, 0, none⟩), .int .i64 1, .int .u32 0, .int .u32 0, .int .u32 0, .bool false, .int .i64 0, .slice (some ⟨ga, 0, none⟩) P.o P.o, .bool false]) ∧ Hid (NL w w' (sw P) db vb vg ga) := by
  obtain ⟨i0, hi, hz0, hz1, hz2⟩ := info_parts info_u8
  have hX := two_new w #[.int .u32 (P.c : Nat), .int .i64 (P.o : Nat), .int .i64 (P.i : Nat), .int .i64 (P.t : Nat), .int .u32 (P.n : Nat)] zLifeH 36 144
  have hA : Below w.heap.size w ((w.alloc (.cells #[.int .u32 (P.c : Nat), .int .i64 (P.o : Nat), .int .i64 (P.i : Nat), .int .i64 (P.t : Nat), .int .u32 (P.n : Nat)] 36)).alloc (.cells zLifeH 144)) := ((Below.refl _ _).alloc (Nat.le_refl _) _).alloc (by simp) _
  have hs : ((w.alloc (.cells #[.int .u32 (P.c : Nat), .int .i64 (P.o : Nat), .int .i64 (P.i : Nat), .int .i64 (P.t : Nat), .int .u32 (P.n : Nat)] 36)).alloc (.cells zLifeH 144)).heap.size = w.heap.size + 2 := by simp
  have hW := fun wx => wnew_ok P.t wx hP.t1 hP.t2
  have hV := fun wx => vnew_ok P.i wx hP.i1 hP.i8
  have hi8 := hP.o8
  have hi1 := hP.o1
  have HW : Hid (_) := hW
  have HV : Hid (_) := hV
  have HA : Hid (_) := And.intro hA hs
  clear hA hs hW hV hP
  go_enter Tryz.func78, Tryz.ntmps78
  go_wp2_with fail
  refine (HW.out _).mono ?_
  rintro e w2 ⟨rfl, o2, d2⟩
  unfold zLifeH at hX HA
  generalize hwa : (w.alloc (.cells #[.int .u32 (P.c : Nat), .int .i64 (P.o : Nat), .int .i64 (P.i : Nat), .int .i64 (P.t : Nat), .int .u32 (P.n : Nat)] 36)).alloc (.cells #[.pointer none, .pointer none, .int .i64 0, .int .u32 0, .int .u32 0, .int .u32 0, .bool false, .int .i64 0, .slice none 0 0, .bool false] 144) = wa at *
  clear hwa
  have b2 : Below wa.heap.size wa w2 := ⟨o2.os, o2.tape, o2.output, o2.size, fun k hk => o2.block k hk (by simp)⟩
  have p1 : w2.cell? ⟨w.heap.size, 2, none⟩ = some (.int .i64 (P.i : Nat)) := cell_of_row w2 _ 2 _ _ _ (hX w2 b2).1
  have K2 : Hid (_) := And.intro b2 d2
  have HX : Hid (_) := hX
  clear b2 d2 o2 HW hX
  go_wp2_with fail
  refine (HV.out _).mono ?_
  rintro e w3 ⟨vb, vg, rfl, h3⟩
  have o3 := h3.out.2.2.2.2.1
  have b3 : Below wa.heap.size wa w3 := K2.out.1.trans ⟨o3.os, o3.tape, o3.output, o3.size, fun k hk => o3.block k (Nat.lt_of_lt_of_le hk K2.out.1.size) (by simp)⟩
  have p2 : w3.cell? ⟨w.heap.size, 1, none⟩ = some (.int .i64 (P.o : Nat)) := cell_of_row w3 _ 1 _ _ _ (HX.out w3 b3).1
  have K3 : Hid (_) := And.intro b3 (And.intro (K2.out.2.off o3 (by simp)) (And.intro h3.out (Nat.lt_of_lt_of_le K2.out.2.lt (Nat.le_refl _))))
  have K4 : Hid (_) := K2.out.2.lt
  clear b3 o3 h3 p1 HV K2
  go_wp2_with (at_make; refine wpList_make8 _ rfl (.tmp 22) (.tmp 22) 22 rfl w3.heap.size 5 i0 Tryz.underlying22 hi hz0 hz1 hz2 _ _ _ _ P.o P.o rfl rfl rfl rfl (Nat.le_refl _) (by omega) (Nat.le_refl _) ?_)
  intro w4 hown4 hbel4
  have b4 : Below wa.heap.size wa w4 := K3.out.1.trans (hbel4.mono K3.out.1.size)
  have e4 := (HX.out w4 b4).2
  have y0 := cell_of_row w4 (w.heap.size + 1) 0 _ _ _ e4
  have y1 := cell_of_row w4 (w.heap.size + 1) 1 _ _ _ e4
  have y2 := cell_of_row w4 (w.heap.size + 1) 2 _ _ _ e4
  have y3 := cell_of_row w4 (w.heap.size + 1) 3 _ _ _ e4
  have y4 := cell_of_row w4 (w.heap.size + 1) 4 _ _ _ e4
  have y5 := cell_of_row w4 (w.heap.size + 1) 5 _ _ _ e4
  have y6 := cell_of_row w4 (w.heap.size + 1) 6 _ _ _ e4
  have y7 := cell_of_row w4 (w.heap.size + 1) 7 _ _ _ e4
  have y8 := cell_of_row w4 (w.heap.size + 1) 8 _ _ _ e4
  have y9 := cell_of_row w4 (w.heap.size + 1) 9 _ _ _ e4
  have fz := fun j => frozen_of_row w4 (w.heap.size + 1) j _ _ e4
  have f0 := fz 0
  have f1 := fz 1
  have f2 := fz 2
  have f3 := fz 3
  have f4 := fz 4
  have f5 := fz 5
  have f6 := fz 6
  have f7 := fz 7
  have f8 := fz 8
  have f9 := fz 9
  have K5 : Hid (_) := And.intro b4 (And.intro hown4 hbel4)
  clear e4 b4 hown4 hbel4 fz p2 HX
  go_wp2_with fail
  refine bodyPost_ret (v := .agg #[.pointer (some ⟨wa.heap.size, 0, none⟩), .pointer (some ⟨vb, 0, none⟩), .int .i64 1, .int .u32 0, .int .u32 0, .int .u32 0, .bool false, .int .i64 0, .slice (some ⟨w3.heap.size, 0, none⟩) P.o P.o, .bool false]) (by simp [results, Tryz.results78, go_sem, y0, y1, y2, y3, y4, y5, y6, y7, y8, y9]) rfl ⟨wa.heap.size, vb, vg, w3.heap.size, rfl, ?_⟩
  obtain ⟨b4, hown4, hbel4⟩ := K5.out
  obtain ⟨b3, d3, ⟨v1, v2, v3, v4, o3, x3⟩, _⟩ := K3.out
  obtain ⟨hA, hs⟩ := HA.out
  have hlt := (hown4.lt _ rfl).2
  have k4 := K4.out
  have oo : Off [w.heap.size + 1] w4 _ := ten (w.heap.size + 1) w4 (.pointer (some ⟨wa.heap.size, 0, none⟩)) (.pointer (some ⟨vb, 0, none⟩)) (.int .i64 1) (.int .u32 0) (.int .u32 0) (.int .u32 0) (.bool false) (.int .i64 0) (.slice (some ⟨w3.heap.size, 0, none⟩) P.o P.o) (.bool false)
  have q4 := Off.of_below (l := []) hbel4
  have sz := oo.size
  have s3 := b3.size
  have s4 := b4.size
  have so : w4.ownsRow w.heap.size 5 1 (.slice (some ⟨w3.heap.size, 0, none⟩) P.o P.o) P.o (CB (fun _ => 0) P.o) := own_base hown4 (by omega)
  have z6 : w3.heap.size < w4.heap.size := hlt
  have z2 : wa.heap.size < vb := by omega
  have z3 : wa.heap.size < vg := by omega
  refine ⟨(d3.off q4 (by simp)).off oo (by simp; omega), ((x3.off q4 (by simp) (by simp) (by simp)).off oo (by simp; omega) (by simp; omega) (by simp)), own_offk so oo ?_, ?_, by omega, z2, z3, v3, v4, Nat.lt_of_lt_of_le z6 sz⟩
  · intro k hk
    cases hk
    have := b3.size
    simp; omega
  · have bo := oo.below (B := w.heap.size) (w0 := w) (hA.trans (b4.mono (by omega))) (by simp) (by have := b4.size; omega)
    exact bo
theorem HX.made {w3 w4 : World} {P : Pm} {db vb vg ga b : Nat} (hP : Pok P) (hD : DG w3 (b + 2) [b, b + 1, b + 2] []) (hN : NL w3 w4 (sw P) db vb vg ga) :
    HX (w4.alloc (.cells (HVC P (b + 2) db vb hnew (.slice (some ⟨ga, 0, none⟩) P.o P.o)) 147)) w4.heap.size P [w4.heap.size, db, vb, vg, ga, b, b + 1, b + 2] hnew
      ⟨b + 2, db, vb, vg, [], [b, b + 1, b + 2], .slice (some ⟨ga, 0, none⟩) P.o P.o, fun k => if k = w4.heap.size then 0 else if k = db then 3 else if k = vb ∨ k = vg then 4 else if k = ga then 6 else 5⟩ := by
  obtain ⟨q1, q2, q3, q4, q5, q6, q7, q8, q9, q10⟩ := hN
  have s3 := q4.size
  have d3 : b + 2 < w3.heap.size := hD.ult _ (by simp)
  have o34 : Off [] w3 w4 := Off.of_below q4
  have oA : Off [] w4 (w4.alloc (.cells (HVC P (b + 2) db vb hnew (.slice (some ⟨ga, 0, none⟩) P.o P.o)) 147)) := Off.alloc _ _ _
  refine ⟨heap_alloc_new w4 _, q1.off oA (by simp), q2.off oA (by simp) (by simp) (by simp), hD.off (o34.trans oA) (by simp), own_offk (own_base q3 (Nat.zero_le _)) oA (by simp), fun i _ => (by show 0 < 256; omega), ?_, ?_, ?_, ?_, ?_, fun k hk => by simp at hk, ?_, ?_, hP⟩
  · intro k hk
    rw [World.size_alloc]
    simp at hk
    omega
  · exact ⟨if_pos rfl, by simp⟩
  · exact ⟨by dsimp only; rw [if_neg (by omega), if_pos rfl], by simp⟩
  · exact ⟨by dsimp only; rw [if_neg (by omega), if_neg (by omega), if_pos (.inl rfl)], by simp⟩
  · exact ⟨by dsimp only; rw [if_neg (by omega), if_neg (by omega), if_pos (.inr rfl)], by simp⟩
  · intro k hk
    refine ⟨?_, by simp at hk ⊢; omega⟩
    dsimp only
    simp at hk
    rw [if_neg (by omega), if_neg (by omega), if_neg (by omega), if_neg (by omega)]
  · intro k hk
    cases hk
    exact ⟨by dsimp only; rw [if_neg (by omega), if_neg (by omega), if_neg (by omega), if_pos rfl], by simp⟩
set_option maxHeartbeats 1600000 in
theorem newH_bad (c : Nat) (o i t : Int) (n : Nat) (w : World) (hE : ¬ okP c o i t n) :
    Calls Tryz.prog 32 #[.agg #[.int .u32 c, .int .i64 o, .int .i64 i, .int .i64 t, .int .u32 n]] w fun e w' => e = .returned (.tuple #[.pointer none, .int .i64 90]) ∧ Below w.heap.size w w' := by
  have hb : Below w.heap.size w (w.alloc (.cells #[.int .u32 c, .int .i64 o, .int .i64 i, .int .i64 t, .int .u32 n] 36)) := (Below.refl _ _).alloc (Nat.le_refl _) _
  have hC := check_any c o i t n (w.alloc (.cells #[.int .u32 c, .int .i64 o, .int .i64 i, .int .i64 t, .int .u32 n] 36)) 90 (if_neg hE)
  clear hE
  go_enter Tryz.func32, Tryz.ntmps32
  go_wp2_with (go_at_call 49; refine hC.mono ?_; rintro e w2 ⟨rfl, b2⟩)
  go_ret2
  exact ⟨rfl, hb.trans (b2.mono hb.size)⟩
set_option maxHeartbeats 3200000 in
theorem newH_any (P : Pm) (hP : Pok P) (w : World) :
    Calls Tryz.prog 32 #[.agg #[.int .u32 (P.c : Nat), .int .i64 (P.o : Nat), .int .i64 (P.i : Nat), .int .i64 (P.t : Nat), .int .u32 (P.n : Nat)]] w fun e w' => ∃ d, e = .returned (.tuple #[.pointer (some ⟨d, 0, none⟩), .int .i64 0]) ∧ Hid (Below w.heap.size w w' ∧ ∃ U, HV w' d P U hnew ∧ ∀ k, k ∈ U → w.heap.size ≤ k) := by
  have hb : Below w.heap.size w (w.alloc (.cells #[.int .u32 (P.c : Nat), .int .i64 (P.o : Nat), .int .i64 (P.i : Nat), .int .i64 (P.t : Nat), .int .u32 (P.n : Nat)] 36)) := (Below.refl _ _).alloc (Nat.le_refl _) _
  have hs : (w.alloc (.cells #[.int .u32 (P.c : Nat), .int .i64 (P.o : Nat), .int .i64 (P.i : Nat), .int .i64 (P.t : Nat), .int .u32 (P.n : Nat)] 36)).heap.size = w.heap.size + 1 := by simp
  have hx0 := heap_alloc_new w (.cells #[.int .u32 (P.c : Nat), .int .i64 (P.o : Nat), .int .i64 (P.i : Nat), .int .i64 (P.t : Nat), .int .u32 (P.n : Nat)] 36)
  have hC := check_any P.c P.o P.i P.t P.n (w.alloc (.cells #[.int .u32 (P.c : Nat), .int .i64 (P.o : Nat), .int .i64 (P.i : Nat), .int .i64 (P.t : Nat), .int .u32 (P.n : Nat)] 36)) 0 (if_pos hP.ok)
  have HH : Hid (_) := And.intro hb (And.intro hs (And.intro hx0 hP))
  clear hb hs hx0 hP
  go_enter Tryz.func32, Tryz.ntmps32
  go_wp2_with (first | (go_at_call 49; refine hC.mono ?_; rintro e w2 ⟨rfl, b1⟩))
  obtain ⟨hb, hs, hx0, hP⟩ := HH.out
  have l1 := b1.size
  have hw1 : w.heap.size < w2.heap.size := by omega
  have e2 := (b1.block w.heap.size (by omega)).trans hx0
  have bb := hb.trans (b1.mono hb.size)
  have H2 : Hid (_) := And.intro bb (And.intro hw1 hP)
  have HS : w2.drew.cell? ⟨w.heap.size, 0, none⟩ = some (.int .u32 (P.c : Nat)) ∧ w2.drew.cell? ⟨w.heap.size, 1, none⟩ = some (.int .i64 (P.o : Nat)) ∧ w2.drew.cell? ⟨w.heap.size, 2, none⟩ = some (.int .i64 (P.i : Nat)) ∧ w2.drew.cell? ⟨w.heap.size, 3, none⟩ = some (.int .i64 (P.t : Nat)) ∧ w2.drew.cell? ⟨w.heap.size, 4, none⟩ = some (.int .u32 (P.n : Nat)) := ⟨cell_of_row w2 _ 0 _ _ _ e2, cell_of_row w2 _ 1 _ _ _ e2, cell_of_row w2 _ 2 _ _ _ e2, cell_of_row w2 _ 3 _ _ _ e2, cell_of_row w2 _ 4 _ _ _ e2⟩
  have hN := dnew_any w2.drew
  clear hC b1 hb hs hx0 hP l1 hw1 e2 bb HH
  go_region_held3 (fun w' => w'.cell? ⟨w.heap.size, 0, none⟩ = some (.int .u32 (P.c : Nat)) ∧ w'.cell? ⟨w.heap.size, 1, none⟩ = some (.int .i64 (P.o : Nat)) ∧ w'.cell? ⟨w.heap.size, 2, none⟩ = some (.int .i64 (P.i : Nat)) ∧ w'.cell? ⟨w.heap.size, 3, none⟩ = some (.int .i64 (P.t : Nat)) ∧ w'.cell? ⟨w.heap.size, 4, none⟩ = some (.int .u32 (P.n : Nat))) (first | with_reducible assumption | exact ⟨(belA _).cell hwl |>.trans HU.1, (belA _).cell hwl |>.trans HU.2.1, (belA _).cell hwl |>.trans HU.2.2.1, (belA _).cell hwl |>.trans HU.2.2.2.1, (belA _).cell hwl |>.trans HU.2.2.2.2⟩) (first
    | (go_at_call 51; refine hN.mono ?_; rintro e w3 ⟨rfl, h3⟩; have hL := hnewLife_any P H2.out.2.2 w3; have hl3 : w.heap.size < w2.drew.heap.size := H2.out.2.1; have HT : w3.cell? ⟨w.heap.size, 0, none⟩ = some (.int .u32 (P.c : Nat)) ∧ w3.cell? ⟨w.heap.size, 1, none⟩ = some (.int .i64 (P.o : Nat)) ∧ w3.cell? ⟨w.heap.size, 2, none⟩ = some (.int .i64 (P.i : Nat)) ∧ w3.cell? ⟨w.heap.size, 3, none⟩ = some (.int .i64 (P.t : Nat)) ∧ w3.cell? ⟨w.heap.size, 4, none⟩ = some (.int .u32 (P.n : Nat)) := ⟨(h3.out.1.cell hl3).trans HS.1, (h3.out.1.cell hl3).trans HS.2.1, (h3.out.1.cell hl3).trans HS.2.2.1, (h3.out.1.cell hl3).trans HS.2.2.2.1, (h3.out.1.cell hl3).trans HS.2.2.2.2⟩; have hl4 : w.heap.size < w3.heap.size := (Nat.lt_of_lt_of_le hl3 h3.out.1.size); clear hN)
    | (go_at_call 78; refine hL.mono ?_; rintro e w4 ⟨db, vb, vg, ga, rfl, h4⟩; have HU : w4.cell? ⟨w.heap.size, 0, none⟩ = some (.int .u32 (P.c : Nat)) ∧ w4.cell? ⟨w.heap.size, 1, none⟩ = some (.int .i64 (P.o : Nat)) ∧ w4.cell? ⟨w.heap.size, 2, none⟩ = some (.int .i64 (P.i : Nat)) ∧ w4.cell? ⟨w.heap.size, 3, none⟩ = some (.int .i64 (P.t : Nat)) ∧ w4.cell? ⟨w.heap.size, 4, none⟩ = some (.int .u32 (P.n : Nat)) := ⟨(h4.out.bel.cell hl4).trans HT.1, (h4.out.bel.cell hl4).trans HT.2.1, (h4.out.bel.cell hl4).trans HT.2.2.1, (h4.out.bel.cell hl4).trans HT.2.2.2.1, (h4.out.bel.cell hl4).trans HT.2.2.2.2⟩; have hwl : w.heap.size < w4.heap.size := (Nat.lt_of_lt_of_le hl4 h4.out.bel.size); have belA : ∀ o, Below w4.heap.size w4 (w4.alloc o) := (fun o => (Below.refl _ _).alloc (Nat.le_refl _) o); clear hL))
  all_goals
    go_wp2_with fail
    go_ret2
    obtain ⟨bb, hw1, hP⟩ := H2.out
    have X := HX.made hP h3.out.2.2 h4.out
    have s3 := h3.out.1.size
    have s2 : w2.drew.heap.size = w2.heap.size := rfl
    have k1 := h4.out.h1
    have k2 := h4.out.h2
    have k3 := h4.out.h3
    have k4 := h4.out.h4
    have k6 := h4.out.h6
    have bA := belA (.cells (HVC P (w2.drew.heap.size + 2) db vb hnew (.slice (some ⟨ga, 0, none⟩) P.o P.o)) 147)
    have b34 := h3.out.1.trans (h4.out.bel.mono h3.out.1.size)
    have b24 := (Below.drew (Below.refl w2.heap.size w2)).trans b34
    refine ⟨w4.heap.size, rfl, bb.trans ((b24.trans (bA.mono b24.size)).mono bb.size), _, ⟨_, X⟩, ?_⟩
    intro k hk
    have := bb.size
    simp at hk
    omega
theorem hreceive_nil (a : Option Addr) (len cap : Nat) (w : World) : Calls Tryz.prog 43 #[.pointer none, .slice a len cap] w fun e w' => e = .returned (.int .i64 1) ∧ w' = w := by
  go_enter Tryz.func43, Tryz.ntmps43
  go_wp2_with fail
  go_ret
  exact ⟨rfl, rfl⟩
theorem hwrite_nil (a : Option Addr) (len cap : Nat) (o : Bool) (w : World) : Calls Tryz.prog 44 #[.pointer none, .slice a len cap, .bool o] w fun e w' => e = .returned (.int .i64 1) ∧ w' = w := by
  go_enter Tryz.func44, Tryz.ntmps44
  go_wp2_with fail
  go_ret
  exact ⟨rfl, rfl⟩
theorem htick_nil (k : Int) (w : World) : Calls Tryz.prog 84 #[.pointer none, .int .i64 k] w fun e w' => e = .returned (.int .i64 1) ∧ w' = w := by
  go_enter Tryz.func84, Tryz.ntmps84
  go_wp2_with fail
  go_ret
  exact ⟨rfl, rfl⟩
theorem hack_nil (w : World) : Calls Tryz.prog 86 #[.pointer none] w fun e w' => e = .returned (.int .i64 1) ∧ w' = w := by
  go_enter Tryz.func86, Tryz.ntmps86
  go_wp2_with fail
  go_ret
  exact ⟨rfl, rfl⟩
theorem hreset_nil (w : World) : Calls Tryz.prog 88 #[.pointer none] w fun e w' => e = .returned (.int .i64 1) ∧ w' = w := by
  go_enter Tryz.func88, Tryz.ntmps88
  go_wp2_with fail
  go_ret
  exact ⟨rfl, rfl⟩
theorem hcode_nil (w : World) : Calls Tryz.prog 83 #[.pointer none] w fun e w' => e = .returned (.int .u32 0) ∧ w' = w := by
  go_enter Tryz.func83, Tryz.ntmps83
  go_wp2_with fail
  go_ret
  exact ⟨rfl, rfl⟩
theorem hlog_nil (w : World) : Calls Tryz.prog 42 #[.pointer none] w fun e w' => e = .returned (.tuple #[.slice none 0 0, .int .i64 0]) ∧ w' = w := by
  go_enter Tryz.func42, Tryz.ntmps42
  go_wp2_with fail
  go_ret2
  exact ⟨rfl, rfl⟩
end Go.Proofs.YtndjepeolamedaaGreat
