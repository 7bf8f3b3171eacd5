/- Layer 20: lastNumbers, refusal. (gensf.py) -/
import Derived.Test.YtiikebaehoobnaaDoorSe
namespace Go.Proofs.YtiikebaehoobnaaDoor
set_option maxRecDepth 100000
open Go.RowKit Go.Maps
set_option maxRecDepth 100000
set_option maxHeartbeats 1000000 in
theorem plast (m : Mv) (hm : m.Ok) (d : Option Addr) (e : Nat) (w : World) : Calls Tryd.prog 56 #[.agg #[.int .i64 m.k, .int .i64 m.c, .int .i64 m.s, .int .i64 m.f, .int .i64 m.a, .int .u32 (m.w : Nat), .int .i64 m.n, .bool m.h, .slice d m.l e]] w fun r w' => ∃ a cap, r = .returned (.slice a m.ns.length cap) ∧ Hid (NRow w' a m.ns.length (zf m.ns) ∧ Below w.heap.size w w') := by
  have w1 : IntKind.i64.wrap ((m.w : Nat) : Int) = ((m.w : Nat) : Int) := by have := hm.w; rw [IntKind.wrap_i64]; omega
  clear hm
  by_cases h3 : m.k = 3
  · have en : m.ns = [m.f] := by unfold Mv.ns; rw [if_pos h3]
    rw [en, h3]
    clear en h3
    have HR : Hid (NRow ((w.alloc (.cells #[.int .i64 3, .int .i64 m.c, .int .i64 m.s, .int .i64 m.f, .int .i64 m.a, .int .u32 (m.w : Nat), .int .i64 m.n, .bool m.h, .slice d m.l e] 34)).alloc (.cells #[.int .i64 m.f] 3)) (some ⟨w.heap.size + 1, 0, none⟩) 1 (zf [m.f]) ∧ Below w.heap.size w ((w.alloc (.cells #[.int .i64 3, .int .i64 m.c, .int .i64 m.s, .int .i64 m.f, .int .i64 m.a, .int .u32 (m.w : Nat), .int .i64 m.n, .bool m.h, .slice d m.l e] 34)).alloc (.cells #[.int .i64 m.f] 3))) := by
      refine ⟨fun i hi => ⟨_, _, rfl, ?_⟩, belA (belA (Below.refl _ _) _) _⟩
      have e := heap_alloc_new (w.alloc (.cells #[.int .i64 3, .int .i64 m.c, .int .i64 m.s, .int .i64 m.f, .int .i64 m.a, .int .u32 (m.w : Nat), .int .i64 m.n, .bool m.h, .slice d m.l e] 34)) (.cells #[.int .i64 m.f] 3)
      simp only [World.size_alloc] at e
      rw [Nat.zero_add, cell_of_row _ _ i _ _ _ e]
      have : i = 0 := by omega
      subst this
      all_goals rfl
    go_enter Tryd.func56, Tryd.ntmps56
    go_wp2_with fail
    go_ret
    exact ⟨_, _, rfl, HR⟩
  · by_cases h4 : m.k = 4
    · have en : m.ns = [m.f, m.a, ((m.w : Nat) : Int)] := by unfold Mv.ns; rw [if_neg h3, if_pos h4]
      rw [en, h4]
      clear en h3 h4
      have HR : Hid (NRow ((w.alloc (.cells #[.int .i64 4, .int .i64 m.c, .int .i64 m.s, .int .i64 m.f, .int .i64 m.a, .int .u32 (m.w : Nat), .int .i64 m.n, .bool m.h, .slice d m.l e] 34)).alloc (.cells #[.int .i64 m.f, .int .i64 m.a, .int .i64 ((m.w : Nat) : Int)] 3)) (some ⟨w.heap.size + 1, 0, none⟩) 3 (zf [m.f, m.a, ((m.w : Nat) : Int)]) ∧ Below w.heap.size w ((w.alloc (.cells #[.int .i64 4, .int .i64 m.c, .int .i64 m.s, .int .i64 m.f, .int .i64 m.a, .int .u32 (m.w : Nat), .int .i64 m.n, .bool m.h, .slice d m.l e] 34)).alloc (.cells #[.int .i64 m.f, .int .i64 m.a, .int .i64 ((m.w : Nat) : Int)] 3))) := by
        refine ⟨fun i hi => ⟨_, _, rfl, ?_⟩, belA (belA (Below.refl _ _) _) _⟩
        have e := heap_alloc_new (w.alloc (.cells #[.int .i64 4, .int .i64 m.c, .int .i64 m.s, .int .i64 m.f, .int .i64 m.a, .int .u32 (m.w : Nat), .int .i64 m.n, .bool m.h, .slice d m.l e] 34)) (.cells #[.int .i64 m.f, .int .i64 m.a, .int .i64 ((m.w : Nat) : Int)] 3)
        simp only [World.size_alloc] at e
        rw [Nat.zero_add, cell_of_row _ _ i _ _ _ e]
        have : i = 0 ∨ i = 1 ∨ i = 2 := by omega
        rcases this with rfl | rfl | rfl
        all_goals rfl
      go_enter Tryd.func56, Tryd.ntmps56
      go_wp2_with fail
      go_ret
      exact ⟨_, _, rfl, HR⟩
    · by_cases h5 : m.k = 5
      · have en : m.ns = [m.n] := by unfold Mv.ns; rw [if_neg h3, if_neg h4, if_pos (.inl h5)]
        rw [en, h5]
        clear en h3 h4 h5
        have HR : Hid (NRow ((w.alloc (.cells #[.int .i64 5, .int .i64 m.c, .int .i64 m.s, .int .i64 m.f, .int .i64 m.a, .int .u32 (m.w : Nat), .int .i64 m.n, .bool m.h, .slice d m.l e] 34)).alloc (.cells #[.int .i64 m.n] 3)) (some ⟨w.heap.size + 1, 0, none⟩) 1 (zf [m.n]) ∧ Below w.heap.size w ((w.alloc (.cells #[.int .i64 5, .int .i64 m.c, .int .i64 m.s, .int .i64 m.f, .int .i64 m.a, .int .u32 (m.w : Nat), .int .i64 m.n, .bool m.h, .slice d m.l e] 34)).alloc (.cells #[.int .i64 m.n] 3))) := by
          refine ⟨fun i hi => ⟨_, _, rfl, ?_⟩, belA (belA (Below.refl _ _) _) _⟩
          have e := heap_alloc_new (w.alloc (.cells #[.int .i64 5, .int .i64 m.c, .int .i64 m.s, .int .i64 m.f, .int .i64 m.a, .int .u32 (m.w : Nat), .int .i64 m.n, .bool m.h, .slice d m.l e] 34)) (.cells #[.int .i64 m.n] 3)
          simp only [World.size_alloc] at e
          rw [Nat.zero_add, cell_of_row _ _ i _ _ _ e]
          have : i = 0 := by omega
          subst this
          all_goals rfl
        go_enter Tryd.func56, Tryd.ntmps56
        go_wp2_with fail
        go_ret
        exact ⟨_, _, rfl, HR⟩
      · by_cases h7 : m.k = 7
        · have en : m.ns = [m.n] := by unfold Mv.ns; rw [if_neg h3, if_neg h4, if_pos (.inr (.inl h7))]
          rw [en, h7]
          clear en h3 h4 h5 h7
          have HR : Hid (NRow ((w.alloc (.cells #[.int .i64 7, .int .i64 m.c, .int .i64 m.s, .int .i64 m.f, .int .i64 m.a, .int .u32 (m.w : Nat), .int .i64 m.n, .bool m.h, .slice d m.l e] 34)).alloc (.cells #[.int .i64 m.n] 3)) (some ⟨w.heap.size + 1, 0, none⟩) 1 (zf [m.n]) ∧ Below w.heap.size w ((w.alloc (.cells #[.int .i64 7, .int .i64 m.c, .int .i64 m.s, .int .i64 m.f, .int .i64 m.a, .int .u32 (m.w : Nat), .int .i64 m.n, .bool m.h, .slice d m.l e] 34)).alloc (.cells #[.int .i64 m.n] 3))) := by
            refine ⟨fun i hi => ⟨_, _, rfl, ?_⟩, belA (belA (Below.refl _ _) _) _⟩
            have e := heap_alloc_new (w.alloc (.cells #[.int .i64 7, .int .i64 m.c, .int .i64 m.s, .int .i64 m.f, .int .i64 m.a, .int .u32 (m.w : Nat), .int .i64 m.n, .bool m.h, .slice d m.l e] 34)) (.cells #[.int .i64 m.n] 3)
            simp only [World.size_alloc] at e
            rw [Nat.zero_add, cell_of_row _ _ i _ _ _ e]
            have : i = 0 := by omega
            subst this
            all_goals rfl
          go_enter Tryd.func56, Tryd.ntmps56
          go_wp2_with fail
          go_ret
          exact ⟨_, _, rfl, HR⟩
        · by_cases h8 : m.k = 8
          · have en : m.ns = [m.n] := by unfold Mv.ns; rw [if_neg h3, if_neg h4, if_pos (.inr (.inr h8))]
            rw [en, h8]
            clear en h3 h4 h5 h7 h8
            have HR : Hid (NRow ((w.alloc (.cells #[.int .i64 8, .int .i64 m.c, .int .i64 m.s, .int .i64 m.f, .int .i64 m.a, .int .u32 (m.w : Nat), .int .i64 m.n, .bool m.h, .slice d m.l e] 34)).alloc (.cells #[.int .i64 m.n] 3)) (some ⟨w.heap.size + 1, 0, none⟩) 1 (zf [m.n]) ∧ Below w.heap.size w ((w.alloc (.cells #[.int .i64 8, .int .i64 m.c, .int .i64 m.s, .int .i64 m.f, .int .i64 m.a, .int .u32 (m.w : Nat), .int .i64 m.n, .bool m.h, .slice d m.l e] 34)).alloc (.cells #[.int .i64 m.n] 3))) := by
              refine ⟨fun i hi => ⟨_, _, rfl, ?_⟩, belA (belA (Below.refl _ _) _) _⟩
              have e := heap_alloc_new (w.alloc (.cells #[.int .i64 8, .int .i64 m.c, .int .i64 m.s, .int .i64 m.f, .int .i64 m.a, .int .u32 (m.w : Nat), .int .i64 m.n, .bool m.h, .slice d m.l e] 34)) (.cells #[.int .i64 m.n] 3)
              simp only [World.size_alloc] at e
              rw [Nat.zero_add, cell_of_row _ _ i _ _ _ e]
              have : i = 0 := by omega
              subst this
              all_goals rfl
            go_enter Tryd.func56, Tryd.ntmps56
            go_wp2_with fail
            go_ret
            exact ⟨_, _, rfl, HR⟩
          · have en : m.ns = [] := by
              unfold Mv.ns
              rw [if_neg h3, if_neg h4, if_neg (by rintro (h | h | h); exact h5 h; exact h7 h; exact h8 h)]
            rw [en]
            have g3 : (m.k == 3) = false := by simpa using h3
            have g4 : (m.k == 4) = false := by simpa using h4
            have g5 : (m.k == 5) = false := by simpa using h5
            have g7 : (m.k == 7) = false := by simpa using h7
            have g8 : (m.k == 8) = false := by simpa using h8
            clear en
            have HR : Hid (NRow (w.alloc (.cells #[.int .i64 m.k, .int .i64 m.c, .int .i64 m.s, .int .i64 m.f, .int .i64 m.a, .int .u32 (m.w : Nat), .int .i64 m.n, .bool m.h, .slice d m.l e] 34)) none 0 (zf []) ∧ Below w.heap.size w (w.alloc (.cells #[.int .i64 m.k, .int .i64 m.c, .int .i64 m.s, .int .i64 m.f, .int .i64 m.a, .int .u32 (m.w : Nat), .int .i64 m.n, .bool m.h, .slice d m.l e] 34))) := by
              exact ⟨fun i hi => by omega, belA (Below.refl _ _) _⟩
            go_enter Tryd.func56, Tryd.ntmps56
            go_wp2_with fail
            go_ret
            exact ⟨_, _, rfl, HR⟩

end Go.Proofs.YtiikebaehoobnaaDoor
