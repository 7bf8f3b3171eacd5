/- Layer 18: a judge's pure story: facts one behind the other. -/
import Derived.Test.YtaeamogagaaodaaGh16
namespace Go.Proofs.Ytaeamogagaaodaa
open Go.RowKit Go.Maps

theorem sees_congr (J : Ju) {F G : Nat → Fa} : ∀ n, (∀ i, i < n → F i = G i) → sees J F n = sees J G n
  | 0, _ => rfl
  | n + 1, h => by
    unfold sees
    rw [sees_congr J n (fun i hi => h i (by omega)), h n (by omega)]
theorem sees_add (J : Ju) (F : Nat → Fa) (a : Nat) : ∀ b, sees J F (a + b) = sees (sees J F a) (fun i => F (a + i)) b
  | 0 => rfl
  | b + 1 => by
    show (sees J F (a + b)).see (F (a + b)) = _
    rw [sees_add J F a b]
    rfl
theorem see_stuck {J : Ju} (h : J.r ≠ 0) (f : Fa) : J.see f = J := by
  unfold Ju.see
  rw [if_pos h]
theorem sees_stuck {J : Ju} (h : J.r ≠ 0) (F : Nat → Fa) : ∀ n, sees J F n = J
  | 0 => rfl
  | n + 1 => by
    unfold sees
    rw [sees_stuck h F n, see_stuck h]
theorem lrn_rest (J : Ju) (f : Fa) : (J.lrn f).r = J.r ∧ (J.lrn f).a = J.a ∧ (J.lrn f).n = J.n := by
  unfold Ju.lrn
  split
  · exact ⟨rfl, rfl, rfl⟩
  · repeat' split
    all_goals exact ⟨rfl, rfl, rfl⟩
/-- A fact that breaks nothing, or the first that does. -/
theorem see_cases {J : Ju} (h : J.r = 0) (f : Fa) : ((J.see f).r = 0 ∧ (J.see f).a = J.a ∧ (J.see f).n = J.n + 1 ∧ J.rule f = 0) ∨ ((J.see f).r ≠ 0 ∧ (J.see f).r = J.rule f ∧ (J.see f).a = ((J.n : Nat) : Int)) := by
  unfold Ju.see
  rw [if_neg (by simp [h])]
  by_cases hr : J.rule f = 0
  · rw [if_neg (by simp [hr])]
    obtain ⟨h1, h2, h3⟩ := lrn_rest J f
    exact .inl ⟨h1.trans h, h2, rfl, hr⟩
  · rw [if_pos hr]
    exact .inr ⟨hr, rfl, rfl⟩
/-- Good so far: the verdict is zero, and every fact was counted. -/
theorem sees_good {J : Ju} (h : J.r = 0) (ha : J.a = 0) (F : Nat → Fa) : ∀ n, (sees J F n).r = 0 → (sees J F n).a = 0 ∧ (sees J F n).n = J.n + n
  | 0, _ => ⟨ha, rfl⟩
  | n + 1, hn => by
    by_cases hb : (sees J F n).r = 0
    · obtain ⟨h1, h2⟩ := sees_good h ha F n hb
      unfold sees at hn ⊢
      rcases see_cases hb (F n) with ⟨_, e2, e3, _⟩ | ⟨e1, _⟩
      · exact ⟨e2.trans h1, by rw [e3, h2]; omega⟩
      · exact absurd hn e1
    · unfold sees at hn
      rw [see_stuck hb] at hn
      exact absurd hn hb
/-- A beginning of a good history is good. -/
theorem sees_pre {J : Ju} (F : Nat → Fa) {n k : Nat} (hk : k ≤ n) (hn : (sees J F n).r = 0) : (sees J F k).r = 0 := by
  apply Decidable.byContradiction
  intro hb
  obtain ⟨m, rfl⟩ : ∃ m, n = k + m := ⟨n - k, by omega⟩
  rw [sees_add, sees_stuck hb] at hn
  exact hb hn
/-- The first fact that breaks a rule. -/
theorem sees_bad {J : Ju} (h : J.r = 0) (ha : J.a = 0) (hJ : J.n = 0) (F : Nat → Fa) : ∀ n, (sees J F n).r ≠ 0 → ∃ k, k < n ∧ (sees J F n).a = ((k : Nat) : Int) ∧ (sees J F k).r = 0 ∧ (sees J F k).a = 0 ∧ ∀ m, k + 1 ≤ m → ∀ G : Nat → Fa, (∀ i, i < k + 1 → G i = F i) → sees J G m = sees J F n
  | 0, hn => absurd h hn
  | n + 1, hn => by
    by_cases hb : (sees J F n).r = 0
    · obtain ⟨h1, h2⟩ := sees_good h ha F n hb
      have hn' : ((sees J F n).see (F n)).r ≠ 0 := hn
      rcases see_cases hb (F n) with ⟨e1, _⟩ | ⟨_, e2, e3⟩
      · exact absurd e1 hn'
      · refine ⟨n, by omega, ?_, hb, h1, fun m hm G hG => ?_⟩
        · show ((sees J F n).see (F n)).a = _
          rw [e3, h2, hJ]
          simp
        · obtain ⟨d, rfl⟩ : ∃ d, m = n + 1 + d := ⟨m - (n + 1), by omega⟩
          have e : sees J G (n + 1) = sees J F (n + 1) := sees_congr J (n + 1) hG
          rw [sees_add, e, sees_stuck hn]
    · obtain ⟨k, hk, e1, e2, e3, e4⟩ := sees_bad h ha hJ F n hb
      have es : sees J F (n + 1) = sees J F n := by
        show (sees J F n).see (F n) = _
        exact see_stuck hb _
      rw [es]
      exact ⟨k, by omega, e1, e2, e3, e4⟩
end Go.Proofs.Ytaeamogagaaodaa
