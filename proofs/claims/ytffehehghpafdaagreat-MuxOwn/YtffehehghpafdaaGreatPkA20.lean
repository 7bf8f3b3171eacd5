/- Part 21 of the texts on which the proofs of layer 13 rest: contracts of Go functions. -/
import Derived.Test.YtffehehghpafdaaGreatPkA18
namespace Go.Proofs.YtffehehghpafdaaGreat
set_option maxRecDepth 100000
open Go.RowKit
def insU (x : Int) : List Int → List Int
  | [] => [x]
  | y :: l => if y < x then y :: insU x l else x :: y :: l
def riseU (l : List Int) : List Int := l.foldl (fun acc x => insU x acc) []
theorem insU_perm (x : Int) (l : List Int) : (insU x l).Perm (x :: l) := by
  induction l with
  | nil => exact List.Perm.refl _
  | cons y l ih =>
    unfold insU
    split
    · exact (ih.cons y).trans (List.Perm.swap x y l)
    · exact List.Perm.refl _
theorem insU_up (x : Int) (l : List Int) (h : l.Pairwise (· ≤ ·)) : (insU x l).Pairwise (· ≤ ·) := by
  induction l with
  | nil => simp [insU]
  | cons y l ih =>
    obtain ⟨h1, h2⟩ := List.pairwise_cons.1 h
    unfold insU
    split
    · rename_i hlt
      refine List.pairwise_cons.2 ⟨fun z hz => ?_, ih h2⟩
      rcases List.mem_cons.1 ((insU_perm x l).mem_iff.1 hz) with rfl | hz
      · omega
      · exact h1 z hz
    · rename_i hge
      refine List.pairwise_cons.2 ⟨fun z hz => ?_, h⟩
      rcases List.mem_cons.1 hz with rfl | hz
      · omega
      · have := h1 z hz; omega
theorem foldU (l acc : List Int) (h : acc.Pairwise (· ≤ ·)) : (l.foldl (fun a x => insU x a) acc).Pairwise (· ≤ ·) ∧ (l.foldl (fun a x => insU x a) acc).Perm (acc ++ l) := by
  induction l generalizing acc with
  | nil => simpa using h
  | cons x l ih =>
    obtain ⟨h1, h2⟩ := ih (insU x acc) (insU_up x acc h)
    refine ⟨h1, h2.trans ?_⟩
    have h3 : (insU x acc ++ l).Perm (x :: acc ++ l) := (insU_perm x acc).append_right l
    exact h3.trans (by simpa using (List.perm_middle (a := x) (l₁ := acc) (l₂ := l)).symm)
theorem riseU_up (l : List Int) : (riseU l).Pairwise (· ≤ ·) := (foldU l [] List.Pairwise.nil).1
theorem riseU_perm (l : List Int) : (riseU l).Perm l := (foldU l [] List.Pairwise.nil).2
theorem riseU_snoc (l : List Int) (x : Int) : riseU (l ++ [x]) = insU x (riseU l) := by simp [riseU]
theorem up_one {l m : List Int} (h : l.Perm m) (hl : l.Pairwise (· ≤ ·)) (hm : m.Pairwise (· ≤ ·)) : l = m := List.Perm.eq_of_pairwise (fun a b _ _ h1 h2 => by omega) hl hm h
theorem insU_at (x : Int) (l : List Int) (k : Nat) (hk : k ≤ l.length) (h1 : ∀ i (h : i < l.length), i < k → l[i] < x) (h2 : ∀ h : k < l.length, ¬ l[k] < x) : insU x l = l.take k ++ x :: l.drop k := by
  induction l generalizing k with
  | nil => simp [insU]
  | cons y l ih =>
    cases k with
    | zero =>
      unfold insU
      rw [if_neg (show ¬ y < x from h2 (by simp))]
      rfl
    | succ k =>
      unfold insU
      rw [if_pos (show y < x from h1 0 (by simp) (by omega))]
      simp only [List.take_succ_cons, List.drop_succ_cons, List.cons_append]
      congr 1
      refine ih k (by simpa using hk) (fun i hi hik => ?_) (fun h => ?_)
      · exact h1 (i + 1) (by simp; omega) (by omega)
      · exact h2 (by simp; omega)
end Go.Proofs.YtffehehghpafdaaGreat
