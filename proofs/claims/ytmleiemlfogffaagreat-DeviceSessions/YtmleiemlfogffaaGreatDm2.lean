/- What the calls of a device keep: errors' numbers, how many notes there are. -/
import Derived.Test.YtmleiemlfogffaaGreatDm
namespace Go.Proofs.YtmleiemlfogffaaGreat
set_option maxRecDepth 100000
open Go.RowKit

theorem nx_e (mx n : Nat) (z : Nat → Nat) (cut : Bool) (s : Ms) : (nx mx n z cut s).e = 0 ∨ (nx mx n z cut s).e = 70 ∨ (nx mx n z cut s).e = 80 := by
  unfold nx
  split
  · exact .inr (.inl rfl)
  · split
    · exact .inr (.inr rfl)
    · split
      · exact .inl rfl
      · exact .inr (.inl rfl)
theorem LW_rng (k c s n f len said : Int) : 0 ≤ LW k c s n f len said ∧ LW k c s n f len said ≤ 48 := by
  unfold LW
  split
  · omega
  · split
    · omega
    · split
      · omega
      · split
        · omega
        · split
          · omega
          · split <;> omega
theorem DE_rng (bs : Nat → Nat) (N : Nat) : 0 ≤ DE bs N ∧ DE bs N ≤ 48 := by
  unfold DE
  split
  · omega
  · split
    · omega
    · split
      · omega
      · exact LW_rng _ _ _ _ _ _ _
theorem dlatch_len (s : Sd) (x : Int) : (dlatch s x).L.length ≤ s.L.length + 1 := by
  unfold dlatch
  split
  · simp [dnote]
  · simp
theorem dlatch_st (s : Sd) (x : Int) : (dlatch s x).st = s.st := by unfold dlatch; split <;> rfl
theorem dlatch_ms (s : Sd) (x : Int) : (dlatch s x).ms = s.ms := by unfold dlatch; split <;> rfl
theorem dodd_len (s : Sd) : (dodd s).L.length ≤ s.L.length + 1 := by
  unfold dodd
  split
  · split
    · simp
    · split
      · exact dlatch_len _ _
      · simp [dleave]
  · omega
theorem dodd_ms (s : Sd) : (dodd s).ms = s.ms := by
  unfold dodd
  split
  · split
    · rfl
    · split
      · exact dlatch_ms _ _
      · rfl
  · rfl
theorem dodd_up {s : Sd} (h : s.st ≠ 6) : (dodd s).st ≠ 6 := by
  unfold dodd
  split
  · split
    · exact h
    · intro e; cases e
  · exact h
theorem dbegin_e (P : Pm) (mx n : Nat) (s : Sd) : 0 ≤ (dbegin P mx n s).e ∧ (dbegin P mx n s).e ≤ 200 := by
  have := nx_e mx n s.ms.bs false s.ms
  unfold dbegin
  split
  · exact ⟨by show (0 : Int) ≤ 80; omega, by show (80 : Int) ≤ 200; omega⟩
  · split
    · exact ⟨by show 0 ≤ (nx mx n s.ms.bs false s.ms).e; omega, by show (nx mx n s.ms.bs false s.ms).e ≤ 200; omega⟩
    · exact ⟨by show (0 : Int) ≤ 0; omega, by show (0 : Int) ≤ 200; omega⟩
theorem dbegin_len (P : Pm) (mx n : Nat) (s : Sd) : (dbegin P mx n s).s.L.length ≤ s.L.length + 1 := by
  unfold dbegin
  split
  · exact dlatch_len _ _
  · split
    · show s.L.length ≤ _; omega
    · show s.L.length ≤ _; omega
theorem dwish_e (P : Pm) (mx n : Nat) (s : Sd) : 0 ≤ (dwish P mx n s).e ∧ (dwish P mx n s).e ≤ 200 := by
  unfold dwish
  split
  · exact ⟨by show (0 : Int) ≤ 130; omega, by show (130 : Int) ≤ 200; omega⟩
  · split
    · exact ⟨by show (0 : Int) ≤ 130; omega, by show (130 : Int) ≤ 200; omega⟩
    · exact dbegin_e _ _ _ _
theorem dwish_len (P : Pm) (mx n : Nat) (s : Sd) : (dwish P mx n s).s.L.length ≤ s.L.length + 2 := by
  have := dodd_len s
  unfold dwish
  split
  · show (dodd s).L.length ≤ _; omega
  · split
    · show (dodd s).L.length ≤ _; omega
    · have := dbegin_len P mx n (dodd s); omega
theorem dtake_e (P : Pm) (mx n : Nat) (s : Sd) (k ss num fl len : Nat) (bs : Nat → Nat) : 0 ≤ (dtake P mx n s k ss num fl len bs).e ∧ (dtake P mx n s k ss num fl len bs).e ≤ 200 := by
  have r1 : ∀ x : Int, 0 ≤ x ∧ x ≤ 200 → 0 ≤ (drefuse P s x).e ∧ (drefuse P s x).e ≤ 200 := fun x h => h
  unfold dtake
  split
  · split
    · exact dwish_e _ _ _ _
    · exact r1 91 (by omega)
  · split
    · split
      · exact ⟨by show (0 : Int) ≤ 0; omega, by show (0 : Int) ≤ 200; omega⟩
      · exact r1 91 (by omega)
    · split
      · exact ⟨by show (0 : Int) ≤ 0; omega, by show (0 : Int) ≤ 200; omega⟩
      · split
        · exact ⟨by show (0 : Int) ≤ 0; omega, by show (0 : Int) ≤ 200; omega⟩
        · split
          · exact ⟨by show (0 : Int) ≤ 0; omega, by show (0 : Int) ≤ 200; omega⟩
          · exact r1 130 (by omega)
theorem dtake_len (P : Pm) (mx n : Nat) (s : Sd) (k ss num fl len : Nat) (bs : Nat → Nat) : (dtake P mx n s k ss num fl len bs).s.L.length ≤ s.L.length + 2 := by
  have r1 : ∀ x : Int, (drefuse P s x).s.L.length ≤ s.L.length + 2 := fun x => by have := dodd_len s; show (dodd s).L.length ≤ _; omega
  unfold dtake
  split
  · split
    · exact dwish_len _ _ _ _
    · exact r1 91
  · split
    · split
      · show (dechoS s).L.length ≤ _
        unfold dechoS
        split
        · show s.L.length ≤ _; omega
        · omega
      · exact r1 91
    · split
      · show (dstartS s).L.length ≤ _
        unfold dstartS
        split
        · show s.L.length ≤ _; omega
        · omega
      · split
        · show s.L.length ≤ _; omega
        · split
          · have := dlatch_len (don { s with nm := P.n }) 80
            have e : (don { s with nm := P.n }).L.length = s.L.length := rfl
            show (dlatch (don { s with nm := P.n }) 80).L.length ≤ _; omega
          · exact r1 130
theorem dhear_e (P : Pm) (mx n : Nat) (s : Sd) (len : Nat) (bs : Nat → Nat) : 0 ≤ (dhear P mx n s len bs).e ∧ (dhear P mx n s len bs).e ≤ 200 := by
  have := DE_rng bs len
  unfold dhear
  split
  · exact ⟨by show 0 ≤ DE bs len; omega, by show DE bs len ≤ 200; omega⟩
  · split
    · exact ⟨by show (0 : Int) ≤ 43; omega, by show (43 : Int) ≤ 200; omega⟩
    · split
      · exact ⟨by show (0 : Int) ≤ 44; omega, by show (44 : Int) ≤ 200; omega⟩
      · exact dtake_e _ _ _ _ _ _ _ _ _ _
theorem dhear_len (P : Pm) (mx n : Nat) (s : Sd) (len : Nat) (bs : Nat → Nat) : (dhear P mx n s len bs).s.L.length ≤ s.L.length + 2 := by
  unfold dhear
  split
  · show s.L.length ≤ _; omega
  · split
    · show s.L.length ≤ _; omega
    · split
      · show s.L.length ≤ _; omega
      · exact dtake_len _ _ _ _ _ _ _ _ _ _

end Go.Proofs.YtmleiemlfogffaaGreat
