/- Layer 20: are two moves the same (the document's SameMove), where they are; isHead. -/
import Derived.Test.YtiikebaehoobnaaDoorSv4
import Derived.Test.YtiikebaehoobnaaDoorStrs
namespace Go.Proofs.YtiikebaehoobnaaDoor
set_option maxRecDepth 100000
open Go.RowKit Go.Maps
set_option maxRecDepth 100000
set_option linter.unusedVariables false
/-- Is it a word of a net's line? -/
def hdW (l : List UInt8) : Bool := (l == [110, 101, 116]) || (l == [104, 111, 115, 116]) || (l == [100, 101, 118, 105, 99, 101])
set_option maxHeartbeats 1000000 in
theorem pisHead0 (a : Option Addr) (c : Nat) (w : World) : Calls Tryd.prog 41 #[.slice a 0 c] w fun r w' => r = .returned (.bool false) ∧ w' = w := by
  go_enter Tryd.func41, Tryd.ntmps41
  go_wp2_with fail
  go_ret
  exact ⟨rfl, rfl⟩
set_option maxHeartbeats 1000000 in
theorem pisHead (g o n c : Nat) (l : List UInt8) (w : World) (hw : w.cell? ⟨g, o, none⟩ = some (.string (tx l))) : Calls Tryd.prog 41 #[.slice (some ⟨g, o, none⟩) (n + 1) c] w fun r w' => r = .returned (.bool (hdW l)) ∧ w' = w := by
  have e1 : ((tx l).toList == [110, 101, 116]) = (l == [110, 101, 116]) := by rw [tx_list]
  have e2 : ((tx l).toList == [104, 111, 115, 116]) = (l == [104, 111, 115, 116]) := by rw [tx_list]
  have e3 : ((tx l).toList == [100, 101, 118, 105, 99, 101]) = (l == [100, 101, 118, 105, 99, 101]) := by rw [tx_list]
  have eH : hdW l = ((l == [110, 101, 116]) || (l == [104, 111, 115, 116]) || (l == [100, 101, 118, 105, 99, 101])) := rfl
  obtain ⟨X, hX⟩ : ∃ x, tx l = x := ⟨_, rfl⟩
  obtain ⟨b1, h1⟩ : ∃ x, (l == [110, 101, 116]) = x := ⟨_, rfl⟩
  obtain ⟨b2, h2⟩ : ∃ x, (l == [104, 111, 115, 116]) = x := ⟨_, rfl⟩
  obtain ⟨b3, h3⟩ : ∃ x, (l == [100, 101, 118, 105, 99, 101]) = x := ⟨_, rfl⟩
  rw [hX] at hw e1 e2 e3
  rw [h1] at e1
  rw [h2] at e2
  rw [h3] at e3
  rw [eH, h1, h2, h3]
  have q0 : (0 : Int) < ((n + 1 : Nat) : Int) := by omega
  clear hX h1 h2 h3 eH
  cases b1 <;> cases b2 <;> cases b3
  all_goals
    go_enter Tryd.func41, Tryd.ntmps41
    go_wp2_with fail
    go_ret
    exact ⟨rfl, rfl⟩
end Go.Proofs.YtiikebaehoobnaaDoor
