/- Part 23 of the texts on which the proofs of layer 13 rest: contracts of Go functions. -/
import Derived.Test.YtndjepeolamedaaGreatPkA20
namespace Go.Proofs.YtndjepeolamedaaGreat
set_option maxRecDepth 100000
open Go.RowKit
def hunitE (P : Pm) (s : Sh) (k ss num len : Nat) : Int := if ss ≠ s.ss ∨ hawaits P s k num len = false then 130 else 0
set_option maxRecDepth 100000 in
set_option maxHeartbeats 3200000 in
theorem hunitB_any (d : Nat) (P : Pm) (U : List Nat) (s : Sh) (k c ss num fl : Nat) (a : Option Addr) (len cap : Nat) (bs : Nat → Nat) (w : World) (h : RVh w d P U s) (hr : Row8 w a len cap bs) (ha : ∀ x, a = some x → x.block < w.heap.size ∧ x.block ∉ U) (h1 : s.st ≠ 1) (hL : s.L.length < 800000) :
    Calls Tryz.prog 104 #[.pointer (some ⟨d, 0, none⟩), .agg #[.int .i64 (k : Nat), .int .u32 (c : Nat), .int .u32 (ss : Nat), .int .u32 (num : Nat), .int .i64 (fl : Nat), .slice a len cap]] w fun e w' => e = .returned (.int .i64 (hunitE P s k ss num len)) ∧ Hid (∃ U', Gr U w U' w' ∧ RVh w' d P U' (if hunitE P s k ss num len = 0 then htake s k ss num fl bs else s)) := by
  obtain ⟨B, x⟩ := id h
  have b0 : Below w.heap.size w (w.alloc (.cells #[.int .i64 (k : Nat), .int .u32 (c : Nat), .int .u32 (ss : Nat), .int .u32 (num : Nat), .int .i64 (fl : Nat), .slice a len cap] 67)) := (Below.refl _ _).alloc (Nat.le_refl _) _
  have hdl := x.dlt
  have hdn : ¬ d = w.heap.size := by omega
  have hdn' : ¬ w.heap.size = d := fun e => hdn e.symm
  have c2 : w.cell? ⟨d, 2, none⟩ = some (.int .i64 (P.i : Nat)) := cell_of_row w d 2 _ _ _ x.dev
  have c4 : w.cell? ⟨d, 4, none⟩ = some (.int .u32 (P.n : Nat)) := cell_of_row w d 4 _ _ _ x.dev
  have c15 : w.cell? ⟨d, 15, none⟩ = some (.int .i64 (s.st : Nat)) := cell_of_row w d 15 _ _ _ x.dev
  have c16 : w.cell? ⟨d, 16, none⟩ = some (.int .u32 (s.ss : Nat)) := cell_of_row w d 16 _ _ _ x.dev
  have c17 : w.cell? ⟨d, 17, none⟩ = some (.int .u32 (s.nm : Nat)) := cell_of_row w d 17 _ _ _ x.dev
  have z15 := x.fz 15
  have z17 := x.fz 17
  have HX : Hid (_) := And.intro h (And.intro x (And.intro b0 (And.intro hr (And.intro ha hL))))
  have no : ∀ wx, Below w.heap.size w wx → Hid (∃ U', Gr U w U' wx ∧ RVh wx d P U' s) := fun wx hx => ⟨U, Gr.below hx, RVh.below h hx⟩
  by_cases hss : ss ≠ s.ss
  · have hE : hunitE P s k ss num len = 130 := if_pos (.inl hss)
    rw [hE, if_neg (by omega)]
    have e1 : ((s.st : Int) == 1) = false := by simp; omega
    have e2 : ((ss : Int) != (s.ss : Int)) = true := by simp; omega
    clear h x b0 hr ha hL hE hss
    go_enter Tryz.func104, Tryz.ntmps104
    go_wp2_with fail
    repeat (go_quiet (fail); go_wp2_with fail)
    go_ret
    refine ⟨rfl, no _ ?_⟩
    repeat (first | exact HX.out.2.2.1 | refine below_drewN ?_ _ | refine Below.drew ?_)
  · obtain rfl : ss = s.ss := by omega
    by_cases ht : hawaits P s k num len = false
    · have hE : hunitE P s k s.ss num len = 130 := if_pos (.inr ht)
      rw [hE, if_neg (by omega)]
      have ht2 : ¬ (k = 18 ∧ s.st = 2 ∨ k = 19 ∧ s.st = 3 ∨ k = 20 ∧ ((s.st = 4 ∧ s.nm < num) ∧ num < P.n) ∧ len = P.i ∨ k = 21 ∧ (s.st = 4 ∧ s.nm < num) ∧ num = P.n) := by unfold hawaits at ht; exact of_decide_eq_false ht
      clear h x b0 hr ha hL hE hss ht
      by_cases h4 : s.st = 4 ∧ s.nm < num
      · rw [h4.1] at c15
        have hn : (s.nm : Int) < (num : Int) := by omega
        by_cases k20 : k = 20
        · subst k20
          by_cases hp : num < P.n
          · have hp1 : (num : Int) < (P.n : Int) := by omega
            have hl1 : ((len : Int) == (P.i : Int)) = false := by simp; omega
            clear ht2 h4 hp h1
            go_enter Tryz.func104, Tryz.ntmps104
            go_wp2_with fail
            repeat (go_quiet (fail); go_wp2_with fail)
            go_ret
            refine ⟨rfl, no _ ?_⟩
            repeat (first | exact HX.out.2.2.1 | refine below_drewN ?_ _ | refine Below.drew ?_)
          · have hp1 : ¬ (num : Int) < (P.n : Int) := by omega
            have hp2 : decide (num < P.n) = false := decide_eq_false (by omega)
            clear ht2 h4 hp h1
            go_enter Tryz.func104, Tryz.ntmps104
            go_wp2_with fail
            repeat (go_quiet (fail); go_wp2_with fail)
            go_ret
            refine ⟨rfl, no _ ?_⟩
            repeat (first | exact HX.out.2.2.1 | refine below_drewN ?_ _ | refine Below.drew ?_)
        · have e20 : ((k : Int) == 20) = false := by simp; omega
          by_cases k21 : k = 21
          · subst k21
            have hp1 : ((num : Int) == (P.n : Int)) = false := by simp; omega
            clear ht2 h4 h1 k20 e20
            go_enter Tryz.func104, Tryz.ntmps104
            go_wp2_with fail
            repeat (go_quiet (fail); go_wp2_with fail)
            go_ret
            refine ⟨rfl, no _ ?_⟩
            repeat (first | exact HX.out.2.2.1 | refine below_drewN ?_ _ | refine Below.drew ?_)
          · have e21 : ((k : Int) == 21) = false := by simp; omega
            clear ht2 h4 h1 k20 k21
            go_enter Tryz.func104, Tryz.ntmps104
            go_wp2_with fail
            repeat (go_quiet (fail); go_wp2_with fail)
            go_ret
            refine ⟨rfl, no _ ?_⟩
            repeat (first | exact HX.out.2.2.1 | refine below_drewN ?_ _ | refine Below.drew ?_)
      · by_cases h5 : s.st = 4
        · rw [h5] at c15
          have hn : ¬ (s.nm : Int) < (num : Int) := by omega
          have hn2 : decide (s.nm < num) = false := decide_eq_false (by omega)
          clear ht2 h4 h1 h5
          go_enter Tryz.func104, Tryz.ntmps104
          go_wp2_with fail
          repeat (go_quiet (fail); go_wp2_with fail)
          go_ret
          refine ⟨rfl, no _ ?_⟩
          repeat (first | exact HX.out.2.2.1 | refine below_drewN ?_ _ | refine Below.drew ?_)
        · have e4 : ((s.st : Int) == 4) = false := by simp; omega
          have e1 : ((s.st : Int) == 1) = false := by simp; omega
          by_cases h2 : s.st = 2
          · rw [h2] at c15
            have e18 : ((k : Int) == 18) = false := by simp; omega
            clear ht2 h4 h1 h5 h2 e4 e1
            go_enter Tryz.func104, Tryz.ntmps104
            go_wp2_with fail
            repeat (go_quiet (fail); go_wp2_with fail)
            go_ret
            refine ⟨rfl, no _ ?_⟩
            repeat (first | exact HX.out.2.2.1 | refine below_drewN ?_ _ | refine Below.drew ?_)
          · have e2 : ((s.st : Int) == 2) = false := by simp; omega
            by_cases h3 : s.st = 3
            · rw [h3] at c15
              have e19 : ((k : Int) == 19) = false := by simp; omega
              clear ht2 h4 h1 h5 h2 h3 e4 e1 e2
              go_enter Tryz.func104, Tryz.ntmps104
              go_wp2_with fail
              repeat (go_quiet (fail); go_wp2_with fail)
              go_ret
              refine ⟨rfl, no _ ?_⟩
              repeat (first | exact HX.out.2.2.1 | refine below_drewN ?_ _ | refine Below.drew ?_)
            · have e3 : ((s.st : Int) == 3) = false := by simp; omega
              clear ht2 h4 h1 h5 h2 h3
              go_enter Tryz.func104, Tryz.ntmps104
              go_wp2_with fail
              repeat (go_quiet (fail); go_wp2_with fail)
              go_ret
              refine ⟨rfl, no _ ?_⟩
              repeat (first | exact HX.out.2.2.1 | refine below_drewN ?_ _ | refine Below.drew ?_)
    · have hE : hunitE P s k s.ss num len = 0 := if_neg (by simp; simpa using ht)
      rw [hE, if_pos rfl]
      have ht2 : k = 18 ∧ s.st = 2 ∨ k = 19 ∧ s.st = 3 ∨ k = 20 ∧ ((s.st = 4 ∧ s.nm < num) ∧ num < P.n) ∧ len = P.i ∨ k = 21 ∧ (s.st = 4 ∧ s.nm < num) ∧ num = P.n := by
        have h0 : hawaits P s k num len = true := by simpa using ht
        unfold hawaits at h0
        exact of_decide_eq_true h0
      have hO : ∀ (wx w1 : World) (s1 : Sh), Gr U w U w1 → RVh w1 d P U s1 → Calls Tryz.prog 167 #[.pointer (some ⟨d, 0, none⟩)] w1 fun e w' => e = .returned (.tuple #[]) ∧ Hid (∃ U', Gr U w U' w' ∧ RVh w' d P U' (hon s1)) := by
        intro wx w1 s1 g1 x1
        refine (hron_any d P U s1 w1 x1).mono ?_
        rintro e w' ⟨rfl, h5⟩
        obtain ⟨U5, g5, x5⟩ := h5.out
        exact ⟨rfl, U5, g1.trans g5, x5⟩
      have HO : Hid (_) := hO
      have set1 : ∀ (wx : World) (v : Nat), Below w.heap.size w wx → Gr U w U (wx.setCell ⟨d, 15, none⟩ (.int .i64 (v : Nat))) ∧ RH (wx.setCell ⟨d, 15, none⟩ (.int .i64 (v : Nat))) d P U { s with st := v } B := by
        intro wx v hx
        have xx := x.newd (Off.of_below hx)
        have o1 := Off.setCell d 15 wx (.int .i64 (v : Nat))
        exact ⟨(Gr.below hx).trans (Gr.same o1 (by simp [x.kd.2])), xx.own (s' := { s with st := v }) o1 (heap_setCell_same _ _ _ _ _ _ xx.dev) ⟨rfl, rfl⟩ rfl rfl x.vok x.dcl⟩
      have set2 : ∀ (wx : World), Below w.heap.size w wx → Gr U w U (wx.setCell ⟨d, 17, none⟩ (.int .u32 (num : Nat))) ∧ RH (wx.setCell ⟨d, 17, none⟩ (.int .u32 (num : Nat))) d P U { s with nm := num } B := by
        intro wx hx
        have xx := x.newd (Off.of_below hx)
        have o1 := Off.setCell d 17 wx (.int .u32 (num : Nat))
        exact ⟨(Gr.below hx).trans (Gr.same o1 (by simp [x.kd.2])), xx.own (s' := { s with nm := num }) o1 (heap_setCell_same _ _ _ _ _ _ xx.dev) ⟨rfl, rfl⟩ rfl rfl x.vok x.dcl⟩
      have hV : ∀ wx, Below w.heap.size w wx → Calls Tryz.prog 93 #[.pointer (some ⟨d, 8, none⟩), .bool true] (wx.setCell ⟨d, 15, none⟩ (.int .i64 4)) fun e w' => e = .returned (.tuple #[]) ∧ Hid (Gr U w U w' ∧ ∃ B', RH w' d P U { s with st := 4, v := vrun s.v true } B') := by
        intro wx hx
        have q4 := set1 wx 4 hx
        refine (hrrunv_any d P U _ B true _ q4.2).mono ?_
        rintro e w5 ⟨rfl, h5⟩
        obtain ⟨g5, B5, x5⟩ := h5.out
        exact ⟨rfl, q4.1.trans g5, B5, x5⟩
      have hN : ∀ wx, Below w.heap.size w wx → wx.heap[w.heap.size]? = some (.cells #[.int .i64 (k : Nat), .int .u32 (c : Nat), .int .u32 (s.ss : Nat), .int .u32 (num : Nat), .int .i64 (fl : Nat), .slice a len cap] 67 (0, 0)) → Calls Tryz.prog 167 #[.pointer (some ⟨d, 0, none⟩)] (wx.setCell ⟨d, 17, none⟩ (.int .u32 (num : Nat))) fun e w' => e = .returned (.tuple #[]) ∧
          Hid (∃ U', Gr U w U' w' ∧ RVh w' d P U' (hon { s with nm := num }) ∧ w'.heap[w.heap.size]? = some (.cells #[.int .i64 (k : Nat), .int .u32 (c : Nat), .int .u32 (s.ss : Nat), .int .u32 (num : Nat), .int .i64 (fl : Nat), .slice a len cap] 67 (0, 0)) ∧ w.heap.size ∉ U' ∧ Row8 w' a len cap bs ∧ (∀ y, a = some y → y.block < w'.heap.size ∧ y.block ∉ U')) := by
        intro wx hx hq
        have q4 := set2 wx hx
        refine (hron_any d P U _ _ ⟨B, q4.2⟩).mono ?_
        rintro e w5 ⟨rfl, h5⟩
        obtain ⟨U5, g5, x5⟩ := h5.out
        have hlx : w.heap.size < wx.heap.size := (Array.getElem?_eq_some_iff.1 hq).1
        have nU : w.heap.size ∉ U := fun hm => by have := RVh.ult h _ hm; omega
        have o1 := Off.setCell d 17 wx (.int .u32 (num : Nat))
        have sz : (wx.setCell ⟨d, 17, none⟩ (.int .u32 (num : Nat))).heap.size = wx.heap.size := by simp [World.setCell]
        have k5 := g5.far (k := w.heap.size) ⟨by omega, nU⟩
        refine ⟨rfl, U5, q4.1.trans g5, x5, k5.2.trans ((o1.block _ hlx (by simp; omega)).trans hq), k5.1.2, ?_, ?_⟩
        · refine ⟨hr.byte, hr.nil, fun y hy i hi => ?_, hr.le⟩
          have h1 := hr.src y hy i hi
          have hlt := World.block_lt_of_cell? w _ h1
          have hb : (y.add i).block = y.block := by unfold Addr.add; split <;> rfl
          have gg := (q4.1.trans g5).off.block (y.add i).block hlt (by rw [hb]; exact (ha y hy).2)
          rw [← h1]
          unfold World.cell?
          rw [gg]
        · intro y hy
          have := (q4.1.trans g5).far (k := y.block) (ha y hy)
          exact this.1
      have HS : Hid (_) := And.intro set1 (And.intro hV hN)
      clear h x b0 hr ha hL hE hss ht hO set1 set2 hV hN
      rcases ht2 with ⟨rfl, h2⟩ | ⟨rfl, h3⟩ | ⟨rfl, ⟨⟨h4, hn⟩, hp⟩, rfl⟩ | ⟨rfl, ⟨h4, hn⟩, rfl⟩
      · rw [h2] at c15
        clear h1 h2
        go_enter Tryz.func104, Tryz.ntmps104
        go_wp2_with fail
        repeat (go_quiet (fail); go_wp2_with fail)
        refine (HO.out w _ _ (HS.out.1 _ 3 (by repeat (first | exact HX.out.2.2.1 | refine below_drewN ?_ _ | refine Below.drew ?_))).1 ⟨B, (HS.out.1 _ 3 (by repeat (first | exact HX.out.2.2.1 | refine below_drewN ?_ _ | refine Below.drew ?_))).2⟩).mono ?_
        rintro e w6 ⟨rfl, h6⟩
        go_wp2_with fail
        go_ret
        exact ⟨rfl, h6⟩
      · rw [h3] at c15
        clear h1 h3
        go_enter Tryz.func104, Tryz.ntmps104
        go_wp2_with fail
        repeat (go_quiet (fail); go_wp2_with fail)
        refine (HS.out.2.1 _ (by repeat (first | exact HX.out.2.2.1 | refine below_drewN ?_ _ | refine Below.drew ?_))).mono ?_
        rintro e w5 ⟨rfl, h5⟩
        obtain ⟨g5, B5, x5⟩ := h5.out
        have G5 : Hid (_) := And.intro g5 x5
        clear h5 g5 x5
        go_wp2_with fail
        refine (HO.out w _ _ G5.out.1 ⟨B5, G5.out.2⟩).mono ?_
        rintro e w6 ⟨rfl, h6⟩
        go_wp2_with fail
        go_ret
        exact ⟨rfl, h6⟩
      · rw [h4] at c15
        have hn1 : (s.nm : Int) < (num : Int) := by omega
        have hn2 : decide (s.nm < num) = true := decide_eq_true hn
        have hp1 : (num : Int) < (P.n : Int) := by omega
        have hp2 : decide (num < P.n) = true := decide_eq_true hp
        obtain ⟨hb8, e8⟩ : ∃ b, decide (8 ≤ fl) = b := ⟨_, rfl⟩
        have e8' : decide ((8 : Int) ≤ (fl : Int)) = hb8 := by rw [← e8]; exact decide_eq_decide.2 (by omega)
        have HE8 : Hid (_) := e8
        clear h1 h4 hn hp
        go_enter Tryz.func104, Tryz.ntmps104
        go_wp2_with fail
        repeat (go_quiet (fail); go_wp2_with fail)
        refine (HS.out.2.2 _ (by repeat (first | exact HX.out.2.2.1 | refine below_drewN ?_ _ | refine Below.drew ?_)) (by repeat (first | exact heap_alloc_new w _ | assumption))).mono ?_
        rintro e w5 ⟨rfl, h5⟩
        obtain ⟨U5, g5, ⟨B5, x5⟩, q5, n5, r5, f5⟩ := h5.out
        have u4 : w5.cell? ⟨w.heap.size, 4, none⟩ = some (.int .i64 (fl : Nat)) := cell_of_row w5 _ 4 _ _ _ q5
        have hH := hrholdv_any d P U5 _ B5 hb8 w5.drew (x5.newd (Off.drew [] w5))
        have H5 : Hid (_) := And.intro g5 (And.intro q5 (And.intro n5 (And.intro r5 f5)))
        have lw5 : w.heap.size < w5.heap.size := (Array.getElem?_eq_some_iff.1 q5).1
        clear h5 g5 q5 n5 r5 f5 x5 HO HS c2 c4 c15 c16 c17 z15 z17 no
        go_wp2_with fail
        go_region_with (go_at_call 128; refine hH.mono ?_; rintro e w6 ⟨rfl, h6⟩)
        all_goals
          obtain ⟨g6, B6, x6⟩ := h6.out
          obtain ⟨g5, q5, n5, r5, f5⟩ := H5.out
          have g56 : Gr U5 w5 U5 w6 := (Gr.same (Off.drew [] w5) (by simp)).trans g6
          have k6 := g56.far (k := w.heap.size) ⟨lw5, n5⟩
          have u5 : w6.cell? ⟨w.heap.size, 5, none⟩ = some (.slice a P.i cap) := cell_of_row w6 _ 5 _ _ _ (k6.2.trans q5)
          have r6 : Row8 w6 a P.i cap bs := by
            refine ⟨r5.byte, r5.nil, fun y hy i hi => ?_, r5.le⟩
            have h1 := r5.src y hy i hi
            have hb : (y.add i).block = y.block := by unfold Addr.add; split <;> rfl
            have gg := g56.off.block (y.add i).block (World.block_lt_of_cell? w5 _ h1) (by rw [hb]; exact (f5 y hy).2)
            rw [← h1]
            unfold World.cell?
            rw [gg]
          have hT := hrtakev_any d P U5 _ B6 a cap bs w6.drew (x6.newd (Off.drew [] w6)) (r6.below (Below.drew (Below.refl _ _))) (fun y hy e => (f5 y hy).2 (e ▸ x6.kd.2))
          have H6 : Hid (_) := And.intro (g5.trans g56) (Gr.same (U := U5) (Off.drew [] w6) (by simp))
          clear hH h6 g6 x6 g5 q5 n5 r5 f5 g56 k6 r6 H5 u4
          go_wp2_with fail
          go_region_with (go_at_call 129; refine hT.mono ?_; rintro e w7 ⟨rfl, h7⟩)
          all_goals
            clear hT u5
            go_wp2_with fail
            go_ret
            obtain ⟨U7, B7, g7, x7⟩ := h7.out
            have e9 := HE8.out
            subst e9
            exact ⟨rfl, U7, (H6.out.1.trans H6.out.2).trans g7, B7, x7⟩
      · rw [h4] at c15
        have hn1 : (s.nm : Int) < (P.n : Int) := by omega
        have hn2 : decide (s.nm < P.n) = true := decide_eq_true hn
        clear h1 h4 hn
        go_enter Tryz.func104, Tryz.ntmps104
        go_wp2_with fail
        repeat (go_quiet (fail); go_wp2_with fail)
        refine (HS.out.2.2 _ (by repeat (first | exact HX.out.2.2.1 | refine below_drewN ?_ _ | refine Below.drew ?_)) (by repeat (first | exact heap_alloc_new w _ | assumption))).mono ?_
        rintro e w5 ⟨rfl, h5⟩
        obtain ⟨U5, g5, x5, _⟩ := h5.out
        have hT := hrlatch_any d P U5 _ 80 w5 x5 (by omega) (by have := HX.out.2.2.2.2.2; show s.L.length < 900000; omega)
        have H5 : Hid (_) := g5
        clear h5 g5 x5 HO HS c2 c4 c15 c16 c17 z15 z17 no
        go_wp2_with fail
        refine hT.mono ?_
        rintro e w6 ⟨rfl, h6⟩
        obtain ⟨U6, g6, ⟨B6, x6⟩⟩ := h6.out
        have hR := hrrunv_any d P U6 _ B6 false w6 x6
        have H6 : Hid (_) := H5.out.trans g6
        clear hT h6 g6 x6 H5
        go_wp2_with fail
        refine hR.mono ?_
        rintro e w7 ⟨rfl, h7⟩
        obtain ⟨g7, B7, x7⟩ := h7.out
        have y15 := cell_of_row w7 d 15 _ _ _ x7.dev
        replace y15 : w7.cell? ⟨d, 15, none⟩ = some (.int .i64 ((hlatch (hon { s with nm := P.n }) 80).st : Nat)) := y15
        have z15 := x7.fz 15
        have o1 := Off.setCell d 15 w7 (.int .i64 5)
        have x8 := x7.own (s' := { (hlatch (hon { s with nm := P.n }) 80) with v := vrun (hlatch (hon { s with nm := P.n }) 80).v false, st := 5 }) o1 (heap_setCell_same _ _ _ _ _ _ x7.dev) ⟨rfl, rfl⟩ rfl rfl x7.vok x7.dcl
        have H8 : Hid (_) := And.intro ((H6.out.trans g7).trans (Gr.same o1 (by simp [x7.kd.2]))) x8
        clear hR h7 g7 x7 H6 o1 x8
        go_wp2_with fail
        go_ret
        exact ⟨rfl, U6, H8.out.1, B7, H8.out.2⟩
end Go.Proofs.YtndjepeolamedaaGreat
