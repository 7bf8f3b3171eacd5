/- Layer 7: one call, on both memories: Read, On, any other. -/
import Derived.Test.YtodngejamocmdaaMstep7
namespace Go.Proofs.Ytodngejamocmdaa
open Go.RowKit

set_option maxRecDepth 100000 in
set_option maxHeartbeats 2000000 in
theorem step_read (b g b' g' n : Nat) (s : Ms) (p c : Int) (w : World) (h : Tw w b g b' g' n s) :
    Calls Try.prog 12 #[.pointer (some ⟨b, 0, none⟩), .pointer (some ⟨b', 0, none⟩), .agg #[.int .i64 2, .int .i64 p, .int .u8 c]] w fun e w' => e = .returned (.bool true) ∧ Stp w b g b' g' n s w' := by
  have P0 := h.ph s 2 p c
  obtain ⟨c0, c1, c2⟩ := P0.op.cells
  have qA := read_any b g n s p _ P0.m
  have qB := rread_any b' g' n s p _ P0.r
  have HP : Hid (_) := P0
  clear h P0
  generalize rdB s n p = x at *
  generalize rch s n p = r at *
  go_enter Try.func12, Try.ntmps12
  go_wp2_with (first | (go_at_call 20; refine qA.mono ?_; rintro e w' ⟨rfl, hw⟩; rw [hw]; clear hw) | (go_at_call 26; refine qB.mono ?_; rintro e w' ⟨rfl, hw⟩; rw [hw]; clear hw))
  go_ret
  exact ⟨by simp, HP.out.off, s, ⟨HP.out.m, HP.out.r, HP.out.d1, HP.out.d2, HP.out.d3, HP.out.d4⟩, by omega⟩
set_option maxRecDepth 100000 in
set_option maxHeartbeats 2000000 in
theorem step_on (b g b' g' n : Nat) (s : Ms) (p c : Int) (w : World) (h : Tw w b g b' g' n s) :
    Calls Try.prog 12 #[.pointer (some ⟨b, 0, none⟩), .pointer (some ⟨b', 0, none⟩), .agg #[.int .i64 4, .int .i64 p, .int .u8 c]] w fun e w' => e = .returned (.bool true) ∧ Stp w b g b' g' n s w' := by
  have P0 := h.ph { s with off := false, ar := false } 4 p c
  obtain ⟨c0, c1, c2⟩ := P0.op.cells
  clear h
  go_enter Try.func12, Try.ntmps12
  go_wp2_with fail
  change Ph _ _ _ _ _ _ _ _ _ _ _ _ _ _ (w.alloc (.cells #[.int .i64 4, .int .i64 p, .int .u8 c] 36)) at P0
  generalize w.alloc (.cells #[.int .i64 4, .int .i64 p, .int .u8 c] 36) = wa at *
  refine (on_any b g n s wa P0.m).mono ?_
  rintro e w1 ⟨rfl, o1, m1⟩
  have P1 := P0.prog o1.pair m1
  clear P0 o1 m1 c0 c1 c2
  go_wp2_with fail
  refine (ron_any b' g' n s w1 P1.r).mono ?_
  rintro e w2 ⟨rfl, o2, m2⟩
  have P2 := P1.refd o2.pair m2
  clear P1 o2 m2
  go_wp2_with fail
  go_ret
  exact ⟨rfl, P2.stp (by show s.t ≤ s.t + 1; omega)⟩
set_option maxRecDepth 100000 in
set_option maxHeartbeats 2000000 in
theorem step_none (b g b' g' n : Nat) (s : Ms) (k p c : Int) (w : World) (h : Tw w b g b' g' n s) (h1 : k ≠ 1) (h2 : k ≠ 2) (h3 : k ≠ 3) (h4 : k ≠ 4) :
    Calls Try.prog 12 #[.pointer (some ⟨b, 0, none⟩), .pointer (some ⟨b', 0, none⟩), .agg #[.int .i64 k, .int .i64 p, .int .u8 c]] w fun e w' => e = .returned (.bool true) ∧ Stp w b g b' g' n s w' := by
  have P0 := h.ph s k p c
  obtain ⟨c0, _, _⟩ := P0.op.cells
  have HP : Hid (_) := P0
  clear h P0
  go_enter Try.func12, Try.ntmps12
  go_wp2_with fail
  go_ret
  exact ⟨rfl, HP.out.off, s, ⟨HP.out.m, HP.out.r, HP.out.d1, HP.out.d2, HP.out.d3, HP.out.d4⟩, by omega⟩
theorem step_any (b g b' g' n : Nat) (s : Ms) (k p : Int) (c : Nat) (w : World) (h : Tw w b g b' g' n s) (hc : c < 256) (hp : p ≤ 9223372036854775807) (ht : s.t < 9223372036854775807) :
    Calls Try.prog 12 #[.pointer (some ⟨b, 0, none⟩), .pointer (some ⟨b', 0, none⟩), .agg #[.int .i64 k, .int .i64 p, .int .u8 (c : Nat)]] w fun e w' => e = .returned (.bool true) ∧ Stp w b g b' g' n s w' := by
  by_cases h1 : k = 1
  · subst h1; exact step_write b g b' g' n s p c w h hc ht
  · by_cases h2 : k = 2
    · subst h2; exact step_read b g b' g' n s p c w h
    · by_cases h3 : k = 3
      · subst h3; exact step_arm b g b' g' n s p c w h hp
      · by_cases h4 : k = 4
        · subst h4; exact step_on b g b' g' n s p c w h
        · exact step_none b g b' g' n s k p c w h h1 h2 h3 h4

end Go.Proofs.Ytodngejamocmdaa
