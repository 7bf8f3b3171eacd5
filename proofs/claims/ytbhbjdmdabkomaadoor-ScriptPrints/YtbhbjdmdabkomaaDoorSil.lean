/- Layer 20: a move's line, of data of any length. (gensil.py) -/
import Derived.Test.YtbhbjdmdabkomaaDoorSmv
namespace Go.Proofs.YtbhbjdmdabkomaaDoor
set_option maxRecDepth 100000
open Go.RowKit Go.Maps
set_option maxRecDepth 100000
theorem Mv.small (m : Mv) (hE : m.err = 0) (h : m.k = 1) : m.l ≤ 8 := by
  unfold Mv.err at hE
  repeat' split at hE
  all_goals first | omega | skip
theorem Mv.line_lenL {m : Mv} (h : m.Ok) (hl : m.k = 1 → m.l ≤ 100000) : m.line.length ≤ 2000000 ∧ m.ws.length ≤ 8 ∧ 0 < m.ws.length := by
  by_cases hk : m.k = 1
  · exact Mv.line_len h (hl hk)
  · have h0 := Mv.line_len (m := { m with l := 0 }) ⟨h.k, h.c, h.s, h.f, h.a, h.w, h.n⟩ (by simp)
    have e : m.ws = ({ m with l := 0 } : Mv).ws := by
      unfold Mv.ws Mv.w3
      rw [if_neg hk, if_neg (show ¬ ({ m with l := 0 } : Mv).k = 1 from hk)]
      rfl
    unfold Mv.line
    rw [e]
    exact h0
set_option maxHeartbeats 2000000 in
theorem pmoveL (m : Mv) (hm : m.Ok) (d : Option Addr) (e : Nat) (w : World) (hr : Row8 w d m.l e m.b) (hl0 : m.l ≤ 140737488355328) (L : Lk w) : Calls Tryd.prog 15 #[.agg #[.int .i64 m.k, .int .i64 m.c, .int .i64 m.s, .int .i64 m.f, .int .i64 m.a, .int .u32 (m.w : Nat), .int .i64 m.n, .bool m.h, .slice d m.l e]] w fun r w' => r = .returned (.tuple #[.string (if m.err = 0 then tx m.line else ByteArray.mk #[]), .int .i64 m.err]) ∧ Below w.heap.size w w' := by
  obtain ⟨W, hW⟩ : ∃ W : World, w.alloc (.cells #[.int .i64 m.k, .int .i64 m.c, .int .i64 m.s, .int .i64 m.f, .int .i64 m.a, .int .u32 (m.w : Nat), .int .i64 m.n, .bool m.h, .slice d m.l e] 29) = W := ⟨_, rfl⟩
  have bW : Below w.heap.size w W := by rw [← hW]; exact belA (Below.refl _ _) _
  have mW : MvW W w.heap.size m d e := by rw [← hW]; exact MvW.new w m d e
  have hRf := prefusal m hm d e W (by omega)
  have HW : Hid (_) := And.intro bW (And.intro mW (And.intro (hr.below bW) (And.intro (L.below bW) hm)))
  obtain ⟨c0, c1, c2, c3, c4, c5, c6, c7, c8⟩ := mW.cells
  clear bW mW hr L hm
  by_cases hE : m.err = 0
  · have HLk : Hid (m.k = 1 → m.l ≤ 8) := m.small hE
    rw [hE] at hRf
    rw [if_pos hE, hE]
    go_enter Tryd.func15, Tryd.ntmps15
    go_wp2_with fail
    try rw [hW]
    clear hW
    refine hRf.mono ?_
    rintro r w1 ⟨rfl, b1⟩
    clear hRf c0 c1 c2 c3 c4 c5 c6 c7 c8
    have HB1 : Hid (_) := b1
    obtain ⟨bW, mW, R, L, hm⟩ := HW.out
    have k1 : 1 ≤ m.k ∧ m.k ≤ 8 := by
      unfold Mv.err at hE
      repeat' split at hE
      all_goals first | omega | skip
    obtain ⟨kk, hkk⟩ : ∃ kk : Nat, m.k = ((kk : Nat) : Int) := ⟨m.k.toNat, by omega⟩
    have hk8 : kk < 9 := by omega
    obtain ⟨Kw, hKw⟩ : ∃ l, kws[kk]? = some l := by
      have : kk < kws.length := hk8
      exact ⟨_, List.getElem?_eq_getElem this⟩
    have hKg : kws.getD m.k.toNat [] = Kw := by rw [hkk, Int.toNat_natCast, List.getD_eq_getElem?_getD, hKw]; rfl
    obtain ⟨c0, c1, c2, c3, c4, c5, c6, c7, c8⟩ := (mW.below b1).cells
    rw [hkk] at c0
    have g0 := (L.below b1).word kk hKw
    have hI := fun wx (bx : Below w1.heap.size w1 wx) => pitoa m.c hm.c.1 hm.c.2 wx ((L.below b1).below bx)
    have hS : ∀ wx, Below w1.heap.size w1 wx → wx.cell? ⟨w.heap.size, 0, none⟩ = some (.int .i64 ((kk : Nat) : Int)) ∧ wx.cell? ⟨w.heap.size, 1, none⟩ = some (.int .i64 m.c) ∧ wx.cell? ⟨0, kk, none⟩ = some (.string (tx Kw)) := fun wx bx => ⟨cellB c0 bx, cellB c1 bx, cellB g0 bx⟩
    have HSd := hS w1.drew (Below.drew (Below.refl _ _))
    have hIc : ∀ wx, Below w1.heap.size w1 wx → Calls Tryd.prog 51 #[.int .i64 m.c] wx fun r w' => ∃ x, r = .returned x ∧ (x = .string (tx (Lib.itoa m.c)) ∧ Below w1.heap.size w1 w') := fun wx bx => (hI wx bx).mono fun _ _ ⟨q, b⟩ => ⟨_, q, rfl, belTS b bx⟩
    have B0 : Below w1.heap.size w1 w1.drew := Below.drew (Below.refl _ _)
    have hk0 : (0 : Int) ≤ ((kk : Nat) : Int) := by omega
    have hk9 : ((kk : Nat) : Int) < 9 := by omega
    clear hI bW mW R L hm b1 hKw g0 c2 c3 c4 c5 c6 c7 c8
    generalize hA : tx (Lib.itoa m.c) = A at *
    generalize hKt : tx Kw = KW at *
    have HKw : Hid (tx Kw = KW ∧ tx (Lib.itoa m.c) = A ∧ kws.getD m.k.toNat [] = Kw) := ⟨hKt, hA, hKg⟩
    clear hA hKt hKg
    go_wp2_with fail
    go_region_held3 (fun wx => wx.cell? ⟨w.heap.size, 0, none⟩ = some (.int .i64 ((kk : Nat) : Int)) ∧ wx.cell? ⟨w.heap.size, 1, none⟩ = some (.int .i64 m.c) ∧ wx.cell? ⟨0, kk, none⟩ = some (.string KW)) (first | assumption | exact hS _ (by assumption) | exact hS _ (belA (by assumption) _)) (first
      | (refine step_callS 51 #[.tmp 16] #[3] rfl (by kernel_rfl) #[.int .i64 m.c] (by kernel_rfl) (hIc _ (by assumption)) ?_; rintro x v1 ⟨rfl, b1⟩)
      | fail)
    obtain ⟨w2, hw2⟩ : ∃ x, v1.alloc (.cells #[.string KW, .string A] 9) = x := ⟨_, rfl⟩
    obtain ⟨gv, hgv⟩ : ∃ x, v1.heap.size = x := ⟨_, rfl⟩
    have HWd : Hid (Wd W w2 (.slice (some ⟨gv, 0, none⟩) 2 2) m.w1) := by
      have bw1 := HB1.out
      have bb : Below W.heap.size W v1 := bw1.trans (b1.mono bw1.size)
      rw [← hw2, ← hgv]
      refine ⟨⟨rfl, .inr ⟨v1.heap.size, 2, _, rfl, bb.size, heap_alloc_new _ _, Nat.le_refl _, by decide, rfl, ?_⟩⟩, belA bb _⟩
      show _ = wsT m.w1
      unfold Mv.w1 wsT
      obtain ⟨e1, e2, e3⟩ := HKw.out
      rw [e3]
      simp [e1, e2]
    have HK : Hid (m.k = ((kk : Nat) : Int)) := hkk
    rw [hw2, hgv]
    clear hw2 hgv b1 hS HSd hIc B0 c0 c1 hkk HKw HB1
    have cel : Hid (∀ wx, Below W.heap.size W wx → MvW wx w.heap.size m d e ∧ Row8 wx d m.l e m.b ∧ Lk wx) := fun wx bx => ⟨HW.out.2.1.below bx, HW.out.2.2.1.below bx, HW.out.2.2.2.1.below bx⟩
    obtain ⟨c0, c1, c2, c3, c4, c5, c6, c7, c8⟩ := (cel.out w2 HWd.out.bel).1.cells
    rw [HK.out] at c0
    have hU := puses ((kk : Nat) : Int)
    go_upto_if 21 with (go_at_call 52; refine (hU _).mono ?_; rintro r w' ⟨rfl, hw⟩; have hw := hw.symm; subst hw)
    clear hU
    go_cut [5] (fun v wx => Hid (Wd W wx v (m.w1 ++ m.w2)))
    case first =>
      have HU : Hid (m.w2 = if sided ((kk : Nat) : Int) then [if m.s = 1 then [104] else [100]] else []) := by
        show m.w2 = _
        unfold Mv.w2
        rw [HK.out]
      cases hsd : sided ((kk : Nat) : Int) with
      | false =>
        have H2 : Hid (Wd W w2 (.slice (some ⟨gv, 0, none⟩) 2 2) (m.w1 ++ m.w2)) := by
          show Wd W w2 (.slice (some ⟨gv, 0, none⟩) 2 2) (m.w1 ++ m.w2)
          rw [HU.out, hsd]
          simpa using HWd.out
        clear hsd
        go_wp2_with fail
        go_meet
        exact H2
      | true =>
        have hP := pside m.s
        obtain ⟨sw, hsw⟩ : ∃ l : List UInt8, (if m.s = 1 then [104] else [100]) = l := ⟨_, rfl⟩
        rw [hsw] at hP
        obtain ⟨X, hX⟩ : ∃ X, tx sw = X := ⟨_, rfl⟩
        rw [hX] at hP
        have HU2 : Hid (m.w2 = [sw]) := by
          show m.w2 = _
          rw [HU.out, hsd, hsw]
          rfl
        clear hsw
        clear hsd HU
        go_wp2_with fail
        refine (hP _).mono ?_
        rintro r w' ⟨rfl, hw⟩
        rw [hw]
        clear hw hP c0 c1 c2 c3 c4 c5 c6 c7 c8
        go_wp2_with (at_builtin; refine wpList_appW rfl _ _ rfl _ X hX HWd.out (Below.refl _ _) rfl rfl (by simp [Mv.w1]) ?_)
        intro v7 w7 h7
        have H2 : Hid (Wd W w7 v7 (m.w1 ++ m.w2)) := by
          show Wd W w7 v7 (m.w1 ++ m.w2)
          rw [HU2.out]
          exact h7.out
        clear h7
        go_wp2_with fail
        go_meet
        exact H2
    case rest =>
      have H3 : Hid (Wd W wc u5 (m.w1 ++ m.w2)) := hcut
      have l2 : (m.w1 ++ m.w2).length ≤ 3 ∧ 0 < (m.w1 ++ m.w2).length := by
        unfold Mv.w2
        split <;> simp [Mv.w1]
      have HL2 : Hid (_) := l2
      clear hcut c0 c1 c2 c3 c4 c5 c6 c7 c8 HWd l2 hw
      obtain ⟨c0, c1, c2, c3, c4, c5, c6, c7, c8⟩ := (cel.out wc H3.out.bel).1.cells
      rw [HK.out] at c0
      obtain ⟨w5, hw5⟩ : ∃ x, wc = x := ⟨_, rfl⟩
      rw [hw5] at H3 c0 c1 c2 c3 c4 c5 c6 c7 c8 ⊢
      clear hw5 wc
      go_upto_if 30 with fail
      go_cut [5] (fun v wx => Hid (Wd W wx v (m.w1 ++ m.w2 ++ m.w3)))
      case first =>
        by_cases hk1 : kk = 1
        · have g1 : (((kk : Nat) : Int) == 1) = true := by
            have : ((kk : Nat) : Int) = 1 := by omega
            simpa using this
          have hD := pdata d m.l e m.b w5 (cel.out w5 H3.out.bel).2.1 (by have h8 := HLk.out (by rw [HK.out, hk1]; rfl); omega)
          obtain ⟨X, hX⟩ : ∃ X, tx (120 :: hx m.l m.b) = X := ⟨_, rfl⟩
          rw [hX] at hD
          have HU : Hid (m.w3 = (120 :: hx m.l m.b) :: (if m.h then [[104, 111, 108, 100]] else [])) := by
            show m.w3 = _
            unfold Mv.w3
            rw [if_pos (by rw [HK.out, hk1]; rfl)]
          clear hk1
          go_wp2_with fail
          refine hD.mono ?_
          rintro r w6 ⟨rfl, b6⟩
          have HB6 : Hid (_) := b6
          clear b6 hD c0 c1 c2 c3 c4 c5 c6 c7 c8
          go_wp2_with (at_builtin; refine wpList_appW rfl _ _ rfl _ X hX H3.out HB6.out rfl rfl (by have := HL2.out; omega) ?_)
          intro v7 w7 h7
          obtain ⟨c0, c1, c2, c3, c4, c5, c6, c7, c8⟩ := (cel.out w7 h7.out.bel).1.cells
          clear hX
          rcases Bool.eq_false_or_eq_true m.h with hh | hh
          rotate_left
          · rw [hh] at c7
            have H4 : Hid (Wd W w7 v7 (m.w1 ++ m.w2 ++ m.w3)) := by
              show Wd W w7 v7 (m.w1 ++ m.w2 ++ m.w3)
              rw [HU.out, hh]
              exact h7.out
            clear h7 hh
            go_wp2_with fail
            go_meet
            exact H4
          · rw [hh] at c7
            have hl3 : (m.w1 ++ m.w2 ++ [120 :: hx m.l m.b]).length ≤ 1000 := by
              have := HL2.out
              rw [List.length_append]
              show _ + 1 ≤ 1000
              omega
            have HU2 : Hid (m.w1 ++ m.w2 ++ m.w3 = m.w1 ++ m.w2 ++ [120 :: hx m.l m.b] ++ [[104, 111, 108, 100]]) := by
              show _ = _
              rw [HU.out, hh]
              simp
            clear hh
            have HT : tx [104, 111, 108, 100] = ByteArray.mk #[104, 111, 108, 100] := rfl
            go_wp2_with (at_builtin; refine wpList_appW rfl _ _ rfl _ (ByteArray.mk #[104, 111, 108, 100]) HT h7.out (Below.refl _ _) rfl rfl hl3 ?_)
            intro v8 w8 h8
            have H4 : Hid (Wd W w8 v8 (m.w1 ++ m.w2 ++ m.w3)) := by
              show Wd W w8 v8 (m.w1 ++ m.w2 ++ m.w3)
              rw [HU2.out]
              simpa using h8.out
            clear h7 h8
            go_wp2_with fail
            go_meet
            exact H4
        · have g1 : (((kk : Nat) : Int) == 1) = false := by
            have : ¬ ((kk : Nat) : Int) = 1 := by omega
            simpa using this
          have H4 : Hid (Wd W w5 u5 (m.w1 ++ m.w2 ++ m.w3)) := by
            have e : m.w3 = [] := by
              unfold Mv.w3
              rw [if_neg (by rw [HK.out]; omega)]
            show Wd W w5 u5 (m.w1 ++ m.w2 ++ m.w3)
            rw [e, List.append_nil]
            exact H3.out
          clear hk1
          go_wp2_with fail
          go_meet
          exact H4
      case rest =>
        have H4 : Hid (Wd W wc u5 (m.w1 ++ m.w2 ++ m.w3)) := hcut
        clear hcut c0 c1 c2 c3 c4 c5 c6 c7 c8 H3
        obtain ⟨c0, c1, c2, c3, c4, c5, c6, c7, c8⟩ := (cel.out wc H4.out.bel).1.cells
        obtain ⟨w6, hw6⟩ : ∃ x, wc = x := ⟨_, rfl⟩
        rw [hw6] at H4 c0 c1 c2 c3 c4 c5 c6 c7 c8 ⊢
        clear hw6 wc
        have hLs := plast m HW.out.2.2.2.2 d e w6
        go_wp2_with fail
        refine hLs.mono ?_
        rintro r w7 ⟨an, cn, rfl, h7⟩
        have hDc := pdecimals an m.ns.length cn (zf m.ns) w7 h7.out.1 (fun i hi => Mv.ns_ok HW.out.2.2.2.2 _ (by
          unfold zf
          rw [List.getD_eq_getElem?_getD, List.getElem?_eq_getElem hi]
          exact List.getElem_mem _)) (by have := m.ns_len; omega) ((cel.out w6 H4.out.bel).2.2.below h7.out.2)
        have H7 : Hid (Below w6.heap.size w6 w7) := h7.out.2
        clear hLs h7 c0 c1 c2 c3 c4 c5 c6 c7 c8
        go_wp2_with fail
        refine hDc.mono ?_
        clear hDc
        rintro r w8 ⟨v8, rfl, h8⟩
        have o8 : w8.ownsRow w7.heap.size 9 1 v8 (m.ns.map Lib.itoa).length (wsT (m.ns.map Lib.itoa)) := by
          rw [← sL_ns, List.length_map]
          exact h8.out.1
        have z8 : (m.ns.map Lib.itoa).length = 0 → v8 = .slice none 0 0 := by
          rw [List.length_map]
          exact h8.out.2.1
        have H8 : Hid (_) := And.intro o8 (And.intro z8 (H7.out.trans (h8.out.2.2.mono H7.out.size)))
        clear o8 z8 h8 H7
        go_wp2_with (at_builtin; refine wpList_appWs rfl _ _ rfl (m.ns.map Lib.itoa) H4.out H8.out.2.2 H8.out.1 H8.out.2.1 rfl rfl (by have := m.w_len; omega) (by have := m.ns_len; rw [List.length_map]; omega) ?_)
        intro v9 w9 h9
        have HLn := Mv.line_lenL HW.out.2.2.2.2 (fun h => by have := HLk.out h; omega)
        have H9 : Hid (Wd W w9 v9 m.ws) := by
          show Wd W w9 v9 m.ws
          unfold Mv.ws Mv.w4
          simpa using h9.out
        clear h9 H8
        obtain ⟨g9, c9, e9⟩ := H9.out.len HLn.2.2
        rw [e9] at H9 ⊢
        clear e9
        have hJ := pjoin (w := w9) m.ws H9.out.own (by have := HLn.2.1; omega) (by have := HLn.1; show m.line.length ≤ _; omega)
        have HN : Hid (_) := HLn
        clear HLn
        go_wp2_with fail
        refine hJ.mono ?_
        rintro r w10 ⟨rfl, b10⟩
        have H10 : Hid (Below w9.heap.size w9 w10) := b10
        clear b10 hJ
        go_wp2_with fail
        go_ret2
        have b9 := H9.out.bel
        exact ⟨rfl, HW.out.1.trans ((b9.mono HW.out.1.size).trans (H10.out.mono (Nat.le_trans HW.out.1.size b9.size)))⟩
  · rw [if_neg hE]
    have gE : (m.err == 0) = false := by simpa using hE
    go_enter Tryd.func15, Tryd.ntmps15
    go_wp2_with fail
    try rw [hW]
    clear hW
    refine hRf.mono ?_
    rintro r w1 ⟨rfl, b1⟩
    have HB1 : Hid (_) := b1
    clear hRf c0 c1 c2 c3 c4 c5 c6 c7 c8 b1
    go_wp2_with fail
    go_ret2
    exact ⟨rfl, HW.out.1.trans (HB1.out.mono HW.out.1.size)⟩
set_option maxHeartbeats 2000000 in
theorem rmoveL (m : Mv) (hm : m.Ok) (d : Option Addr) (e : Nat) (w : World) (hr : Row8 w d m.l e m.b) (hl0 : m.l ≤ 140737488355328) : Calls Tryd.prog 17 #[.agg #[.int .i64 m.k, .int .i64 m.c, .int .i64 m.s, .int .i64 m.f, .int .i64 m.a, .int .u32 (m.w : Nat), .int .i64 m.n, .bool m.h, .slice d m.l e]] w fun r w' => r = .returned (.tuple #[.string (if m.err = 0 then tx m.line else ByteArray.mk #[]), .int .i64 m.err]) ∧ Below w.heap.size w w' := by
  obtain ⟨W, hW⟩ : ∃ W : World, w.alloc (.cells #[.int .i64 m.k, .int .i64 m.c, .int .i64 m.s, .int .i64 m.f, .int .i64 m.a, .int .u32 (m.w : Nat), .int .i64 m.n, .bool m.h, .slice d m.l e] 29) = W := ⟨_, rfl⟩
  have bW : Below w.heap.size w W := by rw [← hW]; exact belA (Below.refl _ _) _
  have mW : MvW W w.heap.size m d e := by rw [← hW]; exact MvW.new w m d e
  have hRf := rfault m hm d e W (by omega)
  have HW : Hid (_) := And.intro bW (And.intro mW (And.intro (hr.below bW) hm))
  obtain ⟨c0, c1, c2, c3, c4, c5, c6, c7, c8⟩ := mW.cells
  clear bW mW hr hm
  by_cases hE : m.err = 0
  rotate_left
  · rw [if_neg hE]
    have gE : (m.err == 0) = false := by simpa using hE
    go_enter Tryd.func17, Tryd.ntmps17
    go_wp2_with fail
    try rw [hW]
    clear hW
    refine hRf.mono ?_
    rintro r w1 ⟨rfl, b1⟩
    have HB1 : Hid (_) := b1
    clear hRf c0 c1 c2 c3 c4 c5 c6 c7 c8 b1
    go_wp2_with fail
    go_ret2
    exact ⟨rfl, HW.out.1.trans (HB1.out.mono HW.out.1.size)⟩
  · have HLk : Hid (m.k = 1 → m.l ≤ 8) := m.small hE
    rw [hE] at hRf
    rw [if_pos hE, hE]
    go_enter Tryd.func17, Tryd.ntmps17
    go_wp2_with fail
    try rw [hW]
    clear hW
    refine hRf.mono ?_
    rintro r w1 ⟨rfl, b1⟩
    clear hRf c0 c1 c2 c3 c4 c5 c6 c7 c8
    have k1 : 1 ≤ m.k ∧ m.k ≤ 8 := by
      unfold Mv.err at hE
      repeat' split at hE
      all_goals first | omega | skip
    obtain ⟨kk, hkk⟩ : ∃ kk : Nat, m.k = ((kk : Nat) : Int) := ⟨m.k.toNat, by omega⟩
    have hk8 : kk < 9 := by omega
    obtain ⟨Kw, hKw⟩ : ∃ l, kws[kk]? = some l := by
      have : kk < kws.length := hk8
      exact ⟨_, List.getElem?_eq_getElem this⟩
    have hKg : kws.getD m.k.toNat [] = Kw := by rw [hkk, Int.toNat_natCast, List.getD_eq_getElem?_getD, hKw]; rfl
    have k1' : 1 ≤ kk ∧ kk ≤ 8 := by omega
    clear hE k1
    obtain ⟨W2, hW2⟩ : ∃ x, w1.alloc (.cells #[.string (ByteArray.mk #[]), .string (ByteArray.mk #[119, 114, 105, 116, 101]), .string (ByteArray.mk #[115, 101, 110, 100]), .string (ByteArray.mk #[100, 101, 108, 105, 118, 101, 114]), .string (ByteArray.mk #[103, 97, 114, 98, 108, 101]), .string (ByteArray.mk #[116, 105, 99, 107]), .string (ByteArray.mk #[97, 99, 107]), .string (ByteArray.mk #[114, 101, 115, 101, 116]), .string (ByteArray.mk #[99, 117, 116])] 9) = x := ⟨_, rfl⟩
    obtain ⟨g, hg⟩ : ∃ x, w1.heap.size = x := ⟨_, rfl⟩
    have g0 := nms w1 kk hKw
    rw [hW2, hg] at g0
    have b2 : Below W.heap.size W W2 := by rw [← hW2]; exact belA b1 _
    have cel : Hid (∀ wx, Below W2.heap.size W2 wx → MvW wx w.heap.size m d e ∧ Row8 wx d m.l e m.b) := fun wx bx => ⟨HW.out.2.1.below (belTS bx b2), HW.out.2.2.1.below (belTS bx b2)⟩
    obtain ⟨c0, c1, c2, c3, c4, c5, c6, c7, c8⟩ := (cel.out W2 (Below.refl _ _)).1.cells
    rw [hkk] at c0
    have hm := HW.out.2.2.2
    have hS : ∀ wx, Below W2.heap.size W2 wx → wx.cell? ⟨w.heap.size, 0, none⟩ = some (.int .i64 ((kk : Nat) : Int)) ∧ wx.cell? ⟨w.heap.size, 1, none⟩ = some (.int .i64 m.c) ∧ wx.cell? ⟨g, kk, none⟩ = some (.string (tx Kw)) := fun wx bx => ⟨cellB c0 bx, cellB c1 bx, cellB g0 bx⟩
    obtain ⟨A, hA⟩ : ∃ x, tx (Lib.itoa m.c) = x := ⟨_, rfl⟩
    have hI := ncall m.c hm.c A hA W2
    have lA := itoa_len hm.c.1 hm.c.2
    rw [← tx_size, hA] at lA
    have lK := kws_len m.k.toNat
    rw [hKg, ← tx_size] at lK
    obtain ⟨KW, hKW⟩ : ∃ x, tx Kw = x := ⟨_, rfl⟩
    rw [hKW] at lK g0 hS
    have sp : tx [32] = ByteArray.mk #[32] := rfl
    obtain ⟨X1, p1, t1, z1⟩ := catS hKW sp
    obtain ⟨X2, p2, t2, z2⟩ := catS t1 hA
    rw [show (ByteArray.mk #[32]).size = 1 from rfl] at z1
    have s1 : ¬ 9223372036854775807 < KW.size + 1 := by omega
    have s2 : ¬ 9223372036854775807 < X1.size + A.size := by omega
    have HX2 : Hid (tx m.j1 = X2) := by
      show tx m.j1 = X2
      rw [m.j1_eq, hKg]
      exact t2
    have B0 : Below W2.heap.size W2 W2.drew := Below.drew (Below.refl _ _)
    have HSd := hS _ B0
    have hk0 : (0 : Int) ≤ ((kk : Nat) : Int) := by omega
    have hk9 : ((kk : Nat) : Int) < 9 := by omega
    have HB2 : Hid (Below w.heap.size w W2) := HW.out.1.trans (b2.mono HW.out.1.size)
    clear b1 b2 hKw hm lA lK z1 z2 t1 t2 hKW hA hKg sp c2 c3 c4 c5 c6 c7 c8
    go_wp2_with fail
    try rw [hW2]
    try rw [hg]
    clear hW2 hg
    go_region_held3 (fun wx => wx.cell? ⟨w.heap.size, 0, none⟩ = some (.int .i64 ((kk : Nat) : Int)) ∧ wx.cell? ⟨w.heap.size, 1, none⟩ = some (.int .i64 m.c) ∧ wx.cell? ⟨g, kk, none⟩ = some (.string KW)) (first | assumption | exact hS _ (by assumption)) (first
      | (refine step_callS 59 #[.tmp 20] #[3] rfl (by kernel_rfl) #[.int .i64 m.c] (by kernel_rfl) (hI _ (by assumption)) ?_; rintro x v1 ⟨rfl, b1⟩)
      | fail)
    rename (World.cell? v1 _ = _ ∧ _ ∧ _) => hHd
    have HB3 : Hid (Below W2.heap.size W2 v1) := b1
    clear hHd
    clear hS HSd hI B0 p1 p2 s1 s2 g0 c0 c1 b1
    obtain ⟨c0, c1, c2, c3, c4, c5, c6, c7, c8⟩ := (cel.out v1 HB3.out).1.cells
    have HK : Hid (_) := hkk
    rw [hkk] at c0
    clear hkk
    have hU := rsided ((kk : Nat) : Int)
    obtain ⟨S, hSd⟩ : ∃ x, sided ((kk : Nat) : Int) = x := ⟨_, rfl⟩
    rw [hSd] at hU
    have HSd : Hid (_) := hSd
    clear hSd
    obtain ⟨X3, hX3⟩ : ∃ x, tx m.j2 = x := ⟨_, rfl⟩
    have HX3 : Hid (_) := hX3
    clear hX3
    go_upto_region 6 with fail
    go_cut [30] (fun v wx => v = .bool (S && decide (m.s = 1)) ∧ wx = v1)
    case first =>
      cases S with
      | false =>
        go_wp2_with fail
        refine (hU _).mono ?_
        rintro r w' ⟨rfl, hw⟩
        rw [hw]
        clear hw
        go_wp2_with fail
        go_meet
        exact ⟨rfl, rfl⟩
      | true =>
        by_cases hs : m.s = 1
        · have E1 : Hid (decide (m.s = 1) = true) := decide_eq_true hs
          rw [hs] at c2
          clear hs
          go_wp2_with fail
          refine (hU _).mono ?_
          rintro r w' ⟨rfl, hw⟩
          rw [hw]
          clear hw
          go_wp2_with fail
          go_meet
          exact ⟨by rw [E1.out]; rfl, rfl⟩
        · have E1 : Hid (decide (m.s = 1) = false) := decide_eq_false hs
          have e2 : (m.s == 1) = false := by simpa using hs
          clear hs
          go_wp2_with fail
          refine (hU _).mono ?_
          rintro r w' ⟨rfl, hw⟩
          rw [hw]
          clear hw
          go_wp2_with fail
          go_meet
          exact ⟨by rw [E1.out]; rfl, rfl⟩
    case rest =>
      obtain ⟨rfl, rfl⟩ := hcut
      have HL := Mv.j1_len HW.out.2.2.2
      rw [← tx_size, HX2.out] at HL
      have s2 : ¬ 9223372036854775807 < X2.size + 2 := by omega
      clear HL
      go_upto_if 30 with fail
      go_cut [6] (fun v wx => v = .string X3 ∧ wx = wc)
      case first =>
        cases S with
        | false =>
          have e : X2 = X3 := by
            rw [← HX2.out, ← HX3.out, m.j2_eq, HK.out, HSd.out]
            simp
          rw [e, Bool.false_and]
          clear e
          go_wp2_with fail
          refine (hU _).mono ?_
          rintro r w' ⟨rfl, hw⟩
          rw [hw]
          clear hw
          go_wp2_with fail
          go_meet
          exact ⟨rfl, rfl⟩
        | true =>
          by_cases hs : m.s = 1
          · have p3 : X2 ++ ByteArray.mk #[32, 104] = X3 := by
              rw [← HX2.out, ← HX3.out, m.j2_eq, HK.out, HSd.out, if_pos rfl, if_pos hs, ← tx_app]
              rfl
            rw [show decide (m.s = 1) = true from decide_eq_true hs]
            clear hs
            go_wp2_with fail
            go_meet
            exact ⟨rfl, rfl⟩
          · have p3 : X2 ++ ByteArray.mk #[32, 100] = X3 := by
              rw [← HX2.out, ← HX3.out, m.j2_eq, HK.out, HSd.out, if_pos rfl, if_neg hs, ← tx_app]
              rfl
            rw [show decide (m.s = 1) = false from decide_eq_false hs]
            clear hs
            go_wp2_with fail
            refine (hU _).mono ?_
            rintro r w' ⟨rfl, hw⟩
            rw [hw]
            clear hw
            go_wp2_with fail
            go_meet
            exact ⟨rfl, rfl⟩
      case rest =>
        obtain ⟨rfl, rfl⟩ := hcut
        have HB4 : Hid (Below w.heap.size w wc) := HB2.out.trans (HB3.out.mono HB2.out.size)
        have L3 := Mv.j2_len HW.out.2.2.2
        rw [← tx_size, HX3.out] at L3
        have sp : tx [32] = ByteArray.mk #[32] := rfl
        have hcase : kk = 1 ∨ kk = 3 ∨ kk = 4 ∨ kk = 5 ∨ kk = 7 ∨ kk = 8 ∨ kk = 2 ∨ kk = 6 := by omega
        clear hk8 k1' hk0 hk9
        rcases hcase with hk | hk | hk | hk | hk | hk | hk | hk
        · have HKk : Hid (m.k = 1) := by
            show m.k = 1
            rw [HK.out, hk]
            rfl
          rw [hk] at c0 ⊢
          rw [show ((1 : Nat) : Int) = 1 from rfl] at c0 ⊢
          clear hk HK hU HSd
          have hl := HLk.out HKk.out
          obtain ⟨Hx, hHx⟩ : ∃ x, tx (hx m.l m.b) = x := ⟨_, rfl⟩
          have lx := hx_len m.l m.b
          rw [← tx_size, hHx] at lx
          obtain ⟨Y1, p1, t1, z1⟩ := catS HX3.out (show tx [32, 120] = ByteArray.mk #[32, 120] from rfl)
          obtain ⟨Y2, p2, t2, z2⟩ := catS t1 hHx
          obtain ⟨Y3, p3, t3, z3⟩ := catS t2 (show tx [32, 104, 111, 108, 100] = ByteArray.mk #[32, 104, 111, 108, 100] from rfl)
          rw [show (ByteArray.mk #[32, 120]).size = 2 from rfl] at z1
          have s1 : ¬ 9223372036854775807 < X3.size + 2 := by omega
          have s3 : ¬ 9223372036854775807 < Y1.size + Hx.size := by omega
          have s4 : ¬ 9223372036854775807 < Y2.size + 5 := by omega
          have HF : Hid (m.line = m.j2 ++ [32, 120] ++ hx m.l m.b ++ (if m.h then [32, 104, 111, 108, 100] else []) ∧ tx (m.j2 ++ [32, 120] ++ hx m.l m.b) = Y2 ∧ tx (m.j2 ++ [32, 120] ++ hx m.l m.b ++ [32, 104, 111, 108, 100]) = Y3) := ⟨m.line1 HKk.out, t2, t3⟩
          have hN := rhex d m.l e m.b wc (cel.out wc HB3.out).2 (by omega)
          rw [hHx] at hN
          clear hHx lx t1 t2 t3 z1 z2 z3 sp s2 L3
          go_wp2_with fail
          refine hN.mono ?_
          rintro r w9 ⟨rfl, b9⟩
          have H9 : Hid (_) := b9
          have cc7 := cellB c7 b9
          clear b9 hN
          rcases Bool.eq_false_or_eq_true m.h with hh | hh
          · rw [hh] at cc7
            have HG : Hid (tx m.line = Y3) := by
              show tx m.line = Y3
              rw [HF.out.1, hh]
              exact HF.out.2.2
            clear hh HF
            go_wp2_with fail
            go_ret2
            exact ⟨by rw [HG.out]; rfl, HB4.out.trans (H9.out.mono HB4.out.size)⟩
          · rw [hh] at cc7
            have HG : Hid (tx m.line = Y2) := by
              show tx m.line = Y2
              rw [HF.out.1, hh]
              simpa using HF.out.2.1
            clear hh HF
            go_wp2_with fail
            go_ret2
            exact ⟨by rw [HG.out]; rfl, HB4.out.trans (H9.out.mono HB4.out.size)⟩
        · have HKk : Hid (m.k = 3) := by
            show m.k = 3
            rw [HK.out, hk]
            rfl
          rw [hk] at c0 ⊢
          rw [show ((3 : Nat) : Int) = 3 from rfl] at c0 ⊢
          clear hk HK hU HSd
          have hm := HW.out.2.2.2
          obtain ⟨A1, hA1⟩ : ∃ x, tx (Lib.itoa m.f) = x := ⟨_, rfl⟩
          have l1 := itoa_len hm.f.1 hm.f.2
          rw [← tx_size, hA1] at l1
          obtain ⟨Y1, p1, t1, z1⟩ := catS HX3.out sp
          obtain ⟨Y2, p2, t2, z2⟩ := catS t1 hA1
          rw [show (ByteArray.mk #[32]).size = 1 from rfl] at z1
          have s1 : ¬ 9223372036854775807 < X3.size + 1 := by omega
          have s3 : ¬ 9223372036854775807 < Y1.size + A1.size := by omega
          have HF : Hid (tx m.line = Y2) := by
            show tx m.line = Y2
            rw [m.line3 HKk.out]
            exact t2
          have hN := rnum m.f hm.f.1 hm.f.2 wc
          rw [hA1] at hN
          clear hm hA1 l1 t1 z1 t2 z2 sp s2 L3
          go_wp2_with fail
          refine hN.mono ?_
          rintro r w9 ⟨rfl, b9⟩
          have H9 : Hid (_) := b9
          clear b9 hN
          go_wp2_with fail
          go_ret2
          exact ⟨by rw [HF.out]; rfl, HB4.out.trans (H9.out.mono HB4.out.size)⟩
        · have HKk : Hid (m.k = 4) := by
            show m.k = 4
            rw [HK.out, hk]
            rfl
          rw [hk] at c0 ⊢
          rw [show ((4 : Nat) : Int) = 4 from rfl] at c0 ⊢
          clear hk HK hU HSd
          have hm := HW.out.2.2.2
          obtain ⟨A1, hA1⟩ : ∃ x, tx (Lib.itoa m.f) = x := ⟨_, rfl⟩
          obtain ⟨A2, hA2⟩ : ∃ x, tx (Lib.itoa m.a) = x := ⟨_, rfl⟩
          obtain ⟨A3, hA3⟩ : ∃ x, tx (Lib.itoa ((m.w : Nat) : Int)) = x := ⟨_, rfl⟩
          have hw0 : -9223372036854775808 ≤ ((m.w : Nat) : Int) ∧ ((m.w : Nat) : Int) ≤ 9223372036854775807 := by
            have := hm.w
            omega
          have l1 := itoa_len hm.f.1 hm.f.2
          have l2 := itoa_len hm.a.1 hm.a.2
          have l3 := itoa_len hw0.1 hw0.2
          rw [← tx_size, hA1] at l1
          rw [← tx_size, hA2] at l2
          rw [← tx_size, hA3] at l3
          obtain ⟨Y1, p1, t1, z1⟩ := catS HX3.out sp
          obtain ⟨Y2, p2, t2, z2⟩ := catS t1 hA1
          obtain ⟨Y3, p3, t3, z3⟩ := catS t2 sp
          obtain ⟨Y4, p4, t4, z4⟩ := catS t3 hA2
          obtain ⟨Y5, p5, t5, z5⟩ := catS t4 sp
          obtain ⟨Y6, p6, t6, z6⟩ := catS t5 hA3
          rw [show (ByteArray.mk #[32]).size = 1 from rfl] at z1 z3 z5
          have s1 : ¬ 9223372036854775807 < X3.size + 1 := by omega
          have s3 : ¬ 9223372036854775807 < Y1.size + A1.size := by omega
          have s4 : ¬ 9223372036854775807 < Y2.size + 1 := by omega
          have s5 : ¬ 9223372036854775807 < Y3.size + A2.size := by omega
          have s6 : ¬ 9223372036854775807 < Y4.size + 1 := by omega
          have s7 : ¬ 9223372036854775807 < Y5.size + A3.size := by omega
          have HF : Hid (tx m.line = Y6) := by
            show tx m.line = Y6
            rw [m.line4 HKk.out]
            exact t6
          have m1 := ncall m.f hm.f A1 hA1 wc
          have m2 := ncall m.a hm.a A2 hA2 wc
          have m3 := ncall ((m.w : Nat) : Int) hw0 A3 hA3 wc
          have ww : IntKind.i64.wrap ((m.w : Nat) : Int) = ((m.w : Nat) : Int) := by have := hm.w; rw [IntKind.wrap_i64]; omega
          have hS : ∀ wx, Below wc.heap.size wc wx → wx.cell? ⟨w.heap.size, 3, none⟩ = some (.int .i64 m.f) ∧ wx.cell? ⟨w.heap.size, 4, none⟩ = some (.int .i64 m.a) ∧ wx.cell? ⟨w.heap.size, 5, none⟩ = some (.int .u32 (m.w : Nat)) := fun wx bx => ⟨cellB c3 bx, cellB c4 bx, cellB c5 bx⟩
          have B0 : Below wc.heap.size wc wc.drew := Below.drew (Below.refl _ _)
          have HSd := hS _ B0
          clear hm hA1 hA2 hA3 hw0 l1 l2 l3 t1 z1 t2 z2 t3 z3 t4 z4 t5 z5 t6 z6 sp s2 L3
          go_wp2_with fail
          go_region_held3 (fun wx => wx.cell? ⟨w.heap.size, 3, none⟩ = some (.int .i64 m.f) ∧ wx.cell? ⟨w.heap.size, 4, none⟩ = some (.int .i64 m.a) ∧ wx.cell? ⟨w.heap.size, 5, none⟩ = some (.int .u32 (m.w : Nat))) (first | assumption | exact hS _ (by assumption)) (first
            | (refine step_callS 59 #[.tmp 65] #[3] rfl (by kernel_rfl) #[.int .i64 m.f] (by kernel_rfl) (m1 _ (by assumption)) ?_; rintro x v1 ⟨rfl, b1⟩)
            | (refine step_callS 59 #[.tmp 70] #[3] rfl (by kernel_rfl) #[.int .i64 m.a] (by kernel_rfl) (m2 _ (by assumption)) ?_; rintro x v2 ⟨rfl, b2⟩)
            | (refine step_callS 59 #[.tmp 76] #[3] rfl (by kernel_rfl) #[.int .i64 ((m.w : Nat) : Int)] (by kernel_rfl) (m3 _ (by assumption)) ?_; rintro x v3 ⟨rfl, b3⟩)
            | fail)
          have H9 : Hid (Below wc.heap.size wc v3) := b3
          clear m1 m2 m3 hS HSd b1 b2 b3 B0
          go_wp2_with fail
          go_ret2
          exact ⟨by rw [HF.out]; rfl, HB4.out.trans (H9.out.mono HB4.out.size)⟩
        · have HKk : Hid (m.k = 5) := by
            show m.k = 5
            rw [HK.out, hk]
            rfl
          rw [hk] at c0 ⊢
          rw [show ((5 : Nat) : Int) = 5 from rfl] at c0 ⊢
          clear hk HK hU HSd
          have hm := HW.out.2.2.2
          obtain ⟨A1, hA1⟩ : ∃ x, tx (Lib.itoa m.n) = x := ⟨_, rfl⟩
          have l1 := itoa_len hm.n.1 hm.n.2
          rw [← tx_size, hA1] at l1
          obtain ⟨Y1, p1, t1, z1⟩ := catS HX3.out sp
          obtain ⟨Y2, p2, t2, z2⟩ := catS t1 hA1
          rw [show (ByteArray.mk #[32]).size = 1 from rfl] at z1
          have s1 : ¬ 9223372036854775807 < X3.size + 1 := by omega
          have s3 : ¬ 9223372036854775807 < Y1.size + A1.size := by omega
          have HF : Hid (tx m.line = Y2) := by
            show tx m.line = Y2
            rw [m.line5 (.inl HKk.out)]
            exact t2
          have hN := rnum m.n hm.n.1 hm.n.2 wc
          rw [hA1] at hN
          clear hm hA1 l1 t1 z1 t2 z2 sp s2 L3
          go_wp2_with fail
          refine hN.mono ?_
          rintro r w9 ⟨rfl, b9⟩
          have H9 : Hid (_) := b9
          clear b9 hN
          go_wp2_with fail
          go_ret2
          exact ⟨by rw [HF.out]; rfl, HB4.out.trans (H9.out.mono HB4.out.size)⟩
        · have HKk : Hid (m.k = 7) := by
            show m.k = 7
            rw [HK.out, hk]
            rfl
          rw [hk] at c0 ⊢
          rw [show ((7 : Nat) : Int) = 7 from rfl] at c0 ⊢
          clear hk HK hU HSd
          have hm := HW.out.2.2.2
          obtain ⟨A1, hA1⟩ : ∃ x, tx (Lib.itoa m.n) = x := ⟨_, rfl⟩
          have l1 := itoa_len hm.n.1 hm.n.2
          rw [← tx_size, hA1] at l1
          obtain ⟨Y1, p1, t1, z1⟩ := catS HX3.out sp
          obtain ⟨Y2, p2, t2, z2⟩ := catS t1 hA1
          rw [show (ByteArray.mk #[32]).size = 1 from rfl] at z1
          have s1 : ¬ 9223372036854775807 < X3.size + 1 := by omega
          have s3 : ¬ 9223372036854775807 < Y1.size + A1.size := by omega
          have HF : Hid (tx m.line = Y2) := by
            show tx m.line = Y2
            rw [m.line5 (.inr (.inl HKk.out))]
            exact t2
          have hN := rnum m.n hm.n.1 hm.n.2 wc
          rw [hA1] at hN
          clear hm hA1 l1 t1 z1 t2 z2 sp s2 L3
          go_wp2_with fail
          refine hN.mono ?_
          rintro r w9 ⟨rfl, b9⟩
          have H9 : Hid (_) := b9
          clear b9 hN
          go_wp2_with fail
          go_ret2
          exact ⟨by rw [HF.out]; rfl, HB4.out.trans (H9.out.mono HB4.out.size)⟩
        · have HKk : Hid (m.k = 8) := by
            show m.k = 8
            rw [HK.out, hk]
            rfl
          rw [hk] at c0 ⊢
          rw [show ((8 : Nat) : Int) = 8 from rfl] at c0 ⊢
          clear hk HK hU HSd
          have hm := HW.out.2.2.2
          obtain ⟨A1, hA1⟩ : ∃ x, tx (Lib.itoa m.n) = x := ⟨_, rfl⟩
          have l1 := itoa_len hm.n.1 hm.n.2
          rw [← tx_size, hA1] at l1
          obtain ⟨Y1, p1, t1, z1⟩ := catS HX3.out sp
          obtain ⟨Y2, p2, t2, z2⟩ := catS t1 hA1
          rw [show (ByteArray.mk #[32]).size = 1 from rfl] at z1
          have s1 : ¬ 9223372036854775807 < X3.size + 1 := by omega
          have s3 : ¬ 9223372036854775807 < Y1.size + A1.size := by omega
          have HF : Hid (tx m.line = Y2) := by
            show tx m.line = Y2
            rw [m.line5 (.inr (.inr HKk.out))]
            exact t2
          have hN := rnum m.n hm.n.1 hm.n.2 wc
          rw [hA1] at hN
          clear hm hA1 l1 t1 z1 t2 z2 sp s2 L3
          go_wp2_with fail
          refine hN.mono ?_
          rintro r w9 ⟨rfl, b9⟩
          have H9 : Hid (_) := b9
          clear b9 hN
          go_wp2_with fail
          go_ret2
          exact ⟨by rw [HF.out]; rfl, HB4.out.trans (H9.out.mono HB4.out.size)⟩
        · have HKk : Hid (m.k = 2) := by
            show m.k = 2
            rw [HK.out, hk]
            rfl
          rw [hk] at c0 ⊢
          rw [show ((2 : Nat) : Int) = 2 from rfl] at c0 ⊢
          clear hk HK hU HSd
          have HF : Hid (tx m.line = X3) := by
            show tx m.line = X3
            rw [m.line2 (.inl HKk.out)]
            exact HX3.out
          clear sp s2 L3
          go_wp2_with fail
          go_ret2
          exact ⟨by rw [HF.out]; rfl, HB4.out⟩
        · have HKk : Hid (m.k = 6) := by
            show m.k = 6
            rw [HK.out, hk]
            rfl
          rw [hk] at c0 ⊢
          rw [show ((6 : Nat) : Int) = 6 from rfl] at c0 ⊢
          clear hk HK hU HSd
          have HF : Hid (tx m.line = X3) := by
            show tx m.line = X3
            rw [m.line2 (.inr HKk.out)]
            exact HX3.out
          clear sp s2 L3
          go_wp2_with fail
          go_ret2
          exact ⟨by rw [HF.out]; rfl, HB4.out⟩
end Go.Proofs.YtbhbjdmdabkomaaDoor
