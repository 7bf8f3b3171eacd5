/- Layer 20: readerOf of any words. -/
import Derived.Test.YtiikebaehoobnaaDoorSv3
namespace Go.Proofs.YtiikebaehoobnaaDoor
set_option maxRecDepth 100000
open Go.RowKit Go.Maps
set_option maxRecDepth 100000
set_option linter.unusedVariables false
/-- Words in a list. -/
def WsRow (w : World) (a : Option Addr) (len : Nat) (L : Nat → List UInt8) : Prop := ∀ i, i < len → ∃ g o, a = some ⟨g, o, none⟩ ∧ w.cell? ⟨g, o + i, none⟩ = some (.string (tx (L i)))
theorem WsRow.below {w w' : World} {a : Option Addr} {len : Nat} {L : Nat → List UInt8} (h : WsRow w a len L) (b : Below w.heap.size w w') : WsRow w' a len L := fun i hi => by
  obtain ⟨g, o, e, c⟩ := h i hi
  exact ⟨g, o, e, cellB c b⟩
/-- Why words make no reader; 0. -/
def rdE (n least most : Nat) : Int := if n < least then 202 else if most < n then 201 else 0
def rdV (n least most : Nat) (v : Value) : Value := if n < least then .slice none 0 0 else if most < n then .slice none 0 0 else v
set_option maxHeartbeats 1000000 in
theorem preaderG (g o n c least most : Nat) (hc : n ≤ c) (hc2 : c ≤ 9223372036854775807) (w : World) : Calls Tryd.prog 35 #[.slice (some ⟨g, o, none⟩) (n + 1) (c + 1), .int .i64 ((least : Nat) : Int), .int .i64 ((most : Nat) : Int)] w fun r w' => r = .returned (.tuple #[.agg #[rdV n least most (.slice (some ⟨g, adv o c, none⟩) n c), .bool false], .int .i64 (rdE n least most)]) ∧ Below w.heap.size w w' := by
  have two : (c = 0 ∧ adv o c = o) ∨ (¬ c = 0 ∧ adv o c = o + 1) := by
    unfold adv
    by_cases h : c = 0
    · exact .inl ⟨h, if_pos h⟩
    · exact .inr ⟨h, if_neg h⟩
  by_cases h1 : n < least
  · have q1 : ((n : Nat) : Int) < ((least : Nat) : Int) := by omega
    have e1 : rdE n least most = 202 := by unfold rdE; rw [if_pos h1]
    have e2 : rdV n least most (.slice (some ⟨g, adv o c, none⟩) n c) = .slice none 0 0 := by unfold rdV; rw [if_pos h1]
    rw [e1, e2]
    clear e1 e2
    go_enter Tryd.func35, Tryd.ntmps35
    go_wp2_with fail
    all_goals
      refine bodyPost_ret (v := .tuple #[.agg #[.slice none 0 0, .bool false], .int .i64 202]) (by simp [results, Tryd.results35, go_sem]) rfl ⟨rfl, ?_⟩
      exact belA (Below.refl _ _) _
  have q1 : ¬ ((n : Nat) : Int) < ((least : Nat) : Int) := by omega
  by_cases h2 : most < n
  · have q2 : ((most : Nat) : Int) < ((n : Nat) : Int) := by omega
    have e1 : rdE n least most = 201 := by unfold rdE; rw [if_neg h1, if_pos h2]
    have e2 : rdV n least most (.slice (some ⟨g, adv o c, none⟩) n c) = .slice none 0 0 := by unfold rdV; rw [if_neg h1, if_pos h2]
    rw [e1, e2]
    clear e1 e2
    go_enter Tryd.func35, Tryd.ntmps35
    go_wp2_with fail
    all_goals
      refine bodyPost_ret (v := .tuple #[.agg #[.slice none 0 0, .bool false], .int .i64 201]) (by simp [results, Tryd.results35, go_sem]) rfl ⟨rfl, ?_⟩
      exact belA (Below.refl _ _) _
  have q2 : ¬ ((most : Nat) : Int) < ((n : Nat) : Int) := by omega
  have e1 : rdE n least most = 0 := by unfold rdE; rw [if_neg h1, if_neg h2]
  have e2 : rdV n least most (.slice (some ⟨g, adv o c, none⟩) n c) = .slice (some ⟨g, adv o c, none⟩) n c := by unfold rdV; rw [if_neg h1, if_neg h2]
  rw [e1, e2]
  clear e1 e2
  rcases two with ⟨rfl, ea⟩ | ⟨h0, ea⟩
  · rw [ea]
    clear ea
    obtain rfl : n = 0 := by omega
    go_enter Tryd.func35, Tryd.ntmps35
    go_wp2_with fail
    all_goals
      refine bodyPost_ret (v := .tuple #[.agg #[.slice (some ⟨g, o, none⟩) 0 0, .bool false], .int .i64 0]) (by simp [results, Tryd.results35, go_sem]) rfl ⟨rfl, ?_⟩
      exact belA (Below.refl _ _) _
  · rw [ea]
    clear ea
    go_enter Tryd.func35, Tryd.ntmps35
    go_wp2_with fail
    all_goals
      refine bodyPost_ret (v := .tuple #[.agg #[.slice (some ⟨g, o + 1, none⟩) n c, .bool false], .int .i64 0]) (by simp [results, Tryd.results35, go_sem]) rfl ⟨rfl, ?_⟩
      exact belA (Below.refl _ _) _
end Go.Proofs.YtiikebaehoobnaaDoor
