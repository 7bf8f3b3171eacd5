/- Layer 20: kindOf of a word that is none of the eight. -/
import Derived.Test.YtiikebaehoobnaaDoorSdo
namespace Go.Proofs.YtiikebaehoobnaaDoor
set_option maxRecDepth 100000
open Go.RowKit Go.Maps
set_option maxRecDepth 100000
set_option maxHeartbeats 1000000 in
theorem pkind_none (l : List UInt8) (hl : ∀ k, 1 ≤ k → k ≤ 8 → kws[k]? ≠ some l) (w : World) (L : Lw w) : Calls Tryd.prog 33 #[.string (tx l)] w fun r w' => r = .returned (.tuple #[.int .i64 0, .bool false]) ∧ w' = w := by
  obtain ⟨X, hX⟩ : ∃ x, tx l = x := ⟨_, rfl⟩
  rw [hX]
  have HX : Hid (_) := hX
  have HL : Hid (_) := And.intro L hl
  clear hX L hl
  go_enter Tryd.func33, Tryd.ntmps33
  go_wp2_with fail
  go_loopw [4, 5, 6, 7, 8, 9, 10, 11, 12, 13, 14] (fun c _ _ _ _ _ _ _ _ _ _ wr => ∃ i : Nat, 1 ≤ i ∧ i ≤ 9 ∧ c = .int .i64 ((i : Nat) : Int) ∧ wr = w) (fun c _ _ _ _ _ _ _ _ _ _ _ => 9 - natV c)
  case atStart => exact ⟨1, by omega, by omega, rfl, rfl⟩
  case round =>
    obtain ⟨i, hi, hik, rfl, rfl⟩ := hrel
    by_cases hi9 : i < 9
    · obtain ⟨Kw, hKw⟩ : ∃ l, kws[i]? = some l := by
        have : i < kws.length := hi9
        exact ⟨_, List.getElem?_eq_getElem this⟩
      have g0 := HL.out.1.word i hKw
      have g1 : ((i : Nat) : Int) ≤ 8 := by omega
      have g2 : (0 : Int) ≤ ((i : Nat) : Int) := by omega
      have g3 : ((i : Nat) : Int) < 9 := by omega
      have hw1 : IntKind.i64.wrap (((i : Nat) : Int) + 1) = ((i + 1 : Nat) : Int) := by rw [IntKind.wrap_i64]; omega
      obtain ⟨KW, hKW⟩ : ∃ x, tx Kw = x := ⟨_, rfl⟩
      rw [hKW] at g0
      have e : (KW.toList == X.toList) = false := by
        have : Kw ≠ l := fun h => HL.out.2 i hi (by omega) (by rw [hKw, h])
        rw [← hKW, ← HX.out, tx_list, tx_list]
        simpa using this
      clear hKW hKw
      go_wp2_with fail
      go_roundw
      case rel => exact ⟨i + 1, by omega, by omega, by first | rfl | go_num, by first | trivial | rfl⟩
      case measure => simp [natV] <;> omega
    · have g1 : ¬ ((i : Nat) : Int) ≤ 8 := by omega
      go_wp2_with fail
      go_ret2
      exact ⟨rfl, rfl⟩
end Go.Proofs.YtiikebaehoobnaaDoor
