/- Layer 20: refusal. (gensg.py) -/
import Derived.Test.YtiikebaehoobnaaDoorSf
namespace Go.Proofs.YtiikebaehoobnaaDoor
set_option maxRecDepth 100000
open Go.RowKit Go.Maps
set_option maxRecDepth 100000
/-- A move in memory, at b. -/
def MvW (w : World) (b : Nat) (m : Mv) (d : Option Addr) (e : Nat) : Prop := w.heap[b]? = some (.cells #[.int .i64 m.k, .int .i64 m.c, .int .i64 m.s, .int .i64 m.f, .int .i64 m.a, .int .u32 (m.w : Nat), .int .i64 m.n, .bool m.h, .slice d m.l e] 34 (0, 0))
theorem MvW.cells {w : World} {b : Nat} {m : Mv} {d : Option Addr} {e : Nat} (h : MvW w b m d e) : w.cell? ⟨b, 0, none⟩ = some (.int .i64 m.k) ∧ w.cell? ⟨b, 1, none⟩ = some (.int .i64 m.c) ∧ w.cell? ⟨b, 2, none⟩ = some (.int .i64 m.s) ∧ w.cell? ⟨b, 3, none⟩ = some (.int .i64 m.f) ∧ w.cell? ⟨b, 4, none⟩ = some (.int .i64 m.a) ∧ w.cell? ⟨b, 5, none⟩ = some (.int .u32 (m.w : Nat)) ∧ w.cell? ⟨b, 6, none⟩ = some (.int .i64 m.n) ∧ w.cell? ⟨b, 7, none⟩ = some (.bool m.h) ∧ w.cell? ⟨b, 8, none⟩ = some (.slice d m.l e) :=
  ⟨cell_of_row w b 0 _ _ _ h, cell_of_row w b 1 _ _ _ h, cell_of_row w b 2 _ _ _ h, cell_of_row w b 3 _ _ _ h, cell_of_row w b 4 _ _ _ h, cell_of_row w b 5 _ _ _ h, cell_of_row w b 6 _ _ _ h, cell_of_row w b 7 _ _ _ h, cell_of_row w b 8 _ _ _ h⟩
theorem MvW.below {w w' : World} {b : Nat} {m : Mv} {d : Option Addr} {e : Nat} (h : MvW w b m d e) (q : Below w.heap.size w w') : MvW w' b m d e := (q.block b (Array.getElem?_eq_some_iff.1 h).1).trans h
theorem MvW.new (w : World) (m : Mv) (d : Option Addr) (e : Nat) : MvW (w.alloc (.cells #[.int .i64 m.k, .int .i64 m.c, .int .i64 m.s, .int .i64 m.f, .int .i64 m.a, .int .u32 (m.w : Nat), .int .i64 m.n, .bool m.h, .slice d m.l e] 34)) w.heap.size m d e := heap_alloc_new _ _
set_option maxHeartbeats 2000000 in
theorem prefusal (m : Mv) (hm : m.Ok) (d : Option Addr) (e : Nat) (w : World) (hl : m.l ≤ 140737488355328) : Calls Tryd.prog 51 #[.agg #[.int .i64 m.k, .int .i64 m.c, .int .i64 m.s, .int .i64 m.f, .int .i64 m.a, .int .u32 (m.w : Nat), .int .i64 m.n, .bool m.h, .slice d m.l e]] w fun r w' => r = .returned (.int .i64 m.err) ∧ Below w.heap.size w w' := by
  obtain ⟨W, hW⟩ : ∃ W : World, (w.alloc (.cells #[.int .i64 m.k, .int .i64 m.c, .int .i64 m.s, .int .i64 m.f, .int .i64 m.a, .int .u32 (m.w : Nat), .int .i64 m.n, .bool m.h, .slice d m.l e] 34)).alloc (.cells #[.int .i64 m.c] 3) = W := ⟨_, rfl⟩
  have bW : Below w.heap.size w W := by rw [← hW]; exact belA (belA (Below.refl _ _) _) _
  have mW : MvW W w.heap.size m d e := by rw [← hW]; exact (MvW.new w m d e).below (belA (Below.refl _ _) _)
  have rW : NRow W (some ⟨w.heap.size + 1, 0, none⟩) [m.c].length (zf [m.c]) := fun i hi => by
    refine ⟨_, _, rfl, ?_⟩
    have e := heap_alloc_new (w.alloc (.cells #[.int .i64 m.k, .int .i64 m.c, .int .i64 m.s, .int .i64 m.f, .int .i64 m.a, .int .u32 (m.w : Nat), .int .i64 m.n, .bool m.h, .slice d m.l e] 34)) (.cells #[.int .i64 m.c] 3)
    rw [hW] at e
    simp only [World.size_alloc] at e
    obtain rfl : i = 0 := by simpa using hi
    exact cell_of_row _ _ 0 _ _ _ e
  have hF := pfit [m.c] _ 1 W rW (by simp)
  have ec : [m.c].all fitI = fitI m.c := by simp
  rw [ec, show [m.c].length = 1 from rfl] at hF
  have hLn := plast m hm d e W
  obtain ⟨c0, c1, c2, c3, c4, c5, c6, c7, c8⟩ := mW.cells
  have HM : Hid (_) := And.intro bW mW
  obtain ⟨E, hE⟩ : ∃ x, m.err = x := ⟨_, rfl⟩
  rw [hE]
  have HE : Hid (m.err = E) := hE
  clear ec rW bW mW hE
  cases fc : fitI m.c with
  | false =>
    rw [fc] at hF
    have HX : Hid (E = 2) := by
      show E = 2
      rw [← HE.out]
      unfold Mv.err
      rw [if_pos (.inl fc)]
    go_enter Tryd.func51, Tryd.ntmps51
    go_wp2_with fail
    try rw [hW]
    clear hW
    refine hF.mono ?_
    rintro r w' ⟨rfl, hw⟩
    rw [hw]
    clear hF hLn hw
    go_wp2_with fail
    go_ret
    exact ⟨by rw [HX.out]; rfl, HM.out.1⟩
  | true =>
    rw [fc] at hF
    go_enter Tryd.func51, Tryd.ntmps51
    go_wp2_with fail
    try rw [hW]
    clear hW
    refine hF.mono ?_
    rintro r w' ⟨rfl, hw⟩
    rw [hw]
    clear hF hw
    go_wp2_with fail
    refine hLn.mono ?_
    rintro r w2 ⟨a, cap, rfl, h2⟩
    have hF := pfit m.ns a cap w2 h2.out.1 (by have := m.ns_len; omega)
    have HM2 : Hid (Below w.heap.size w w2 ∧ MvW w2 w.heap.size m d e) := ⟨HM.out.1.trans (h2.out.2.mono HM.out.1.size), HM.out.2.below h2.out.2⟩
    clear hLn h2 c0 c1 c2 c3 c4 c5 c6 c7 c8 HM
    generalize m.ns.length = nn at *
    cases fn : m.ns.all fitI with
    | false =>
      rw [fn] at hF
      have HX : Hid (E = 2) := by
        show E = 2
        rw [← HE.out]
        unfold Mv.err
        rw [if_pos (.inr fn)]
      go_wp2_with fail
      refine hF.mono ?_
      rintro r w' ⟨rfl, hw⟩
      rw [hw]
      clear hF hw
      go_wp2_with fail
      go_ret
      exact ⟨by rw [HX.out]; rfl, HM2.out.1⟩
    | true =>
      rw [fn] at hF
      have HX : Hid (E = if sided m.k = true ∧ m.s ≠ 1 ∧ m.s ≠ 2 then 172 else if m.k = 1 ∧ 8 < m.l then 45 else if m.k < 1 ∨ 8 < m.k then 170 else 0) := by
        show E = _
        rw [← HE.out]
        unfold Mv.err
        rw [if_neg (by rintro (h | h); rw [fc] at h; cases h; rw [fn] at h; cases h)]
      go_wp2_with fail
      refine hF.mono ?_
      rintro r w' ⟨rfl, hw⟩
      rw [hw]
      clear hF hw HE fn fc
      obtain ⟨c0, c1, c2, c3, c4, c5, c6, c7, c8⟩ := HM2.out.2.cells
      have hU := puses m.k
      go_wp2_with fail
      refine (hU _).mono ?_
      rintro r w' ⟨rfl, hw⟩
      rw [hw]
      clear hU hw
      have tail : Hid (E = if m.k = 1 ∧ 8 < m.l then 45 else if m.k < 1 ∨ 8 < m.k then 170 else 0) → Hid (True) := fun _ => trivial
      clear tail
      by_cases hs : sided m.k = true ∧ m.s ≠ 1 ∧ m.s ≠ 2
      · obtain ⟨h1, h2, h3⟩ := hs
        have HX2 : Hid (E = 172) := by show E = 172; rw [HX.out, if_pos ⟨h1, h2, h3⟩]
        have g2 : (m.s != 1) = true := by simpa using h2
        have g3 : (m.s != 2) = true := by simpa using h3
        rw [h1]
        clear HX h1 h2 h3
        go_wp2_with fail
        go_ret
        exact ⟨by rw [HX2.out]; rfl, HM2.out.1⟩
      · have HX2 : Hid (E = if m.k = 1 ∧ 8 < m.l then 45 else if m.k < 1 ∨ 8 < m.k then 170 else 0) := by show E = _; rw [HX.out, if_neg hs]
        obtain ⟨S, hS⟩ : ∃ x, sided m.k = x := ⟨_, rfl⟩
        rw [hS] at hs ⊢
        clear HX hS
        have fin : ∀ (Q : Prop), (((m.k = 1 ∧ 8 < m.l) → Hid (E = 45) → Q) → (¬ (m.k = 1 ∧ 8 < m.l) → (m.k < 1 ∨ 8 < m.k) → Hid (E = 170) → Q) → (¬ (m.k = 1 ∧ 8 < m.l) → ¬ (m.k < 1 ∨ 8 < m.k) → Hid (E = 0) → Q) → Q) := fun Q q1 q2 q3 => by
          by_cases h1 : m.k = 1 ∧ 8 < m.l
          · exact q1 h1 (by show E = 45; rw [HX2.out, if_pos h1])
          · by_cases h2 : m.k < 1 ∨ 8 < m.k
            · exact q2 h1 h2 (by show E = 170; rw [HX2.out, if_neg h1, if_pos h2])
            · exact q3 h1 h2 (by show E = 0; rw [HX2.out, if_neg h1, if_neg h2])
        have ss : S = false ∨ (S = true ∧ m.s = 1) ∨ (S = true ∧ m.s ≠ 1 ∧ m.s = 2) := by
          cases S with
          | false => exact .inl rfl
          | true =>
            by_cases h1 : m.s = 1
            · exact .inr (.inl ⟨rfl, h1⟩)
            · by_cases h2 : m.s = 2
              · exact .inr (.inr ⟨rfl, h1, h2⟩)
              · exact absurd ⟨rfl, h1, h2⟩ hs
        clear hs HX2
        rcases ss with rfl | ⟨rfl, h1⟩ | ⟨rfl, h1, h2⟩
        · skip
          refine fin _ (fun h1 HX => ?_) (fun h1 h2 HX => ?_) (fun h1 h2 HX => ?_)
          · have g1 : (m.k == 1) = true := by simpa using h1.1
            have g2 : (8 : Int) < ((m.l : Nat) : Int) := by omega
            have g3 := h1.2
            clear h1 fin
            go_wp2_with fail
            go_ret
            exact ⟨by rw [HX.out]; rfl, HM2.out.1⟩
          · by_cases hk1 : m.k = 1
            · omega
            · have g1 : (m.k == 1) = false := by simpa using hk1
              clear fin h1
              by_cases hk : m.k < 1
              · clear h2
                go_wp2_with fail
                go_ret
                exact ⟨by rw [HX.out]; rfl, HM2.out.1⟩
              · have hk8 : 8 < m.k := by omega
                have hk8' : m.k > 8 := hk8
                clear h2
                go_wp2_with fail
                go_ret
                exact ⟨by rw [HX.out]; rfl, HM2.out.1⟩
          · have hk : ¬ m.k < 1 := by omega
            have hk8 : ¬ 8 < m.k := by omega
            have hk8' : ¬ m.k > 8 := by omega
            by_cases hk1 : m.k = 1
            · have g1 : (m.k == 1) = true := by simpa using hk1
              have g2 : ¬ (8 : Int) < ((m.l : Nat) : Int) := by omega
              have g3 : ¬ 8 < m.l := by omega
              clear fin h1 h2 hk1
              go_wp2_with fail
              go_ret
              exact ⟨by rw [HX.out]; rfl, HM2.out.1⟩
            · have g1 : (m.k == 1) = false := by simpa using hk1
              clear fin h1 h2
              go_wp2_with fail
              go_ret
              exact ⟨by rw [HX.out]; rfl, HM2.out.1⟩
        · have f1 : (m.s != 1) = false := by simpa using h1
          clear h1
          refine fin _ (fun h1 HX => ?_) (fun h1 h2 HX => ?_) (fun h1 h2 HX => ?_)
          · have g1 : (m.k == 1) = true := by simpa using h1.1
            have g2 : (8 : Int) < ((m.l : Nat) : Int) := by omega
            have g3 := h1.2
            clear h1 fin
            go_wp2_with fail
            go_ret
            exact ⟨by rw [HX.out]; rfl, HM2.out.1⟩
          · by_cases hk1 : m.k = 1
            · omega
            · have g1 : (m.k == 1) = false := by simpa using hk1
              clear fin h1
              by_cases hk : m.k < 1
              · clear h2
                go_wp2_with fail
                go_ret
                exact ⟨by rw [HX.out]; rfl, HM2.out.1⟩
              · have hk8 : 8 < m.k := by omega
                have hk8' : m.k > 8 := hk8
                clear h2
                go_wp2_with fail
                go_ret
                exact ⟨by rw [HX.out]; rfl, HM2.out.1⟩
          · have hk : ¬ m.k < 1 := by omega
            have hk8 : ¬ 8 < m.k := by omega
            have hk8' : ¬ m.k > 8 := by omega
            by_cases hk1 : m.k = 1
            · have g1 : (m.k == 1) = true := by simpa using hk1
              have g2 : ¬ (8 : Int) < ((m.l : Nat) : Int) := by omega
              have g3 : ¬ 8 < m.l := by omega
              clear fin h1 h2 hk1
              go_wp2_with fail
              go_ret
              exact ⟨by rw [HX.out]; rfl, HM2.out.1⟩
            · have g1 : (m.k == 1) = false := by simpa using hk1
              clear fin h1 h2
              go_wp2_with fail
              go_ret
              exact ⟨by rw [HX.out]; rfl, HM2.out.1⟩
        · have f1 : (m.s != 1) = true := by simpa using h1
          have f2 : (m.s != 2) = false := by simpa using h2
          clear h1 h2
          refine fin _ (fun h1 HX => ?_) (fun h1 h2 HX => ?_) (fun h1 h2 HX => ?_)
          · have g1 : (m.k == 1) = true := by simpa using h1.1
            have g2 : (8 : Int) < ((m.l : Nat) : Int) := by omega
            have g3 := h1.2
            clear h1 fin
            go_wp2_with fail
            go_ret
            exact ⟨by rw [HX.out]; rfl, HM2.out.1⟩
          · by_cases hk1 : m.k = 1
            · omega
            · have g1 : (m.k == 1) = false := by simpa using hk1
              clear fin h1
              by_cases hk : m.k < 1
              · clear h2
                go_wp2_with fail
                go_ret
                exact ⟨by rw [HX.out]; rfl, HM2.out.1⟩
              · have hk8 : 8 < m.k := by omega
                have hk8' : m.k > 8 := hk8
                clear h2
                go_wp2_with fail
                go_ret
                exact ⟨by rw [HX.out]; rfl, HM2.out.1⟩
          · have hk : ¬ m.k < 1 := by omega
            have hk8 : ¬ 8 < m.k := by omega
            have hk8' : ¬ m.k > 8 := by omega
            by_cases hk1 : m.k = 1
            · have g1 : (m.k == 1) = true := by simpa using hk1
              have g2 : ¬ (8 : Int) < ((m.l : Nat) : Int) := by omega
              have g3 : ¬ 8 < m.l := by omega
              clear fin h1 h2 hk1
              go_wp2_with fail
              go_ret
              exact ⟨by rw [HX.out]; rfl, HM2.out.1⟩
            · have g1 : (m.k == 1) = false := by simpa using hk1
              clear fin h1 h2
              go_wp2_with fail
              go_ret
              exact ⟨by rw [HX.out]; rfl, HM2.out.1⟩
end Go.Proofs.YtiikebaehoobnaaDoor
