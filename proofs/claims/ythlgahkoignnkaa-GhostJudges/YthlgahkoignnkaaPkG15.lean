/- Part 16 of the texts on which the proof rests: contracts of Go functions. -/
import Derived.Test.YthlgahkoignnkaaPkG14
namespace Go.Proofs.Ythlgahkoignnkaa
open Go.RowKit Go.Maps
def faL (f : Fa) (da : Option Addr) (dc : Nat) : List Value := [.int .i64 f.k, .int .i64 f.c, .int .i64 f.s, .int .u32 (f.ss : Nat), .int .u32 (f.nn : Nat), .bool f.on, .int .i64 f.cd, .slice da f.n dc]
theorem faL_one (f : Fa) (da : Option Addr) (dc : Nat) : ∀ u ∈ faL f da dc, u.oneCell' = true := by
  intro u hu
  simp [faL] at hu
  rcases hu with rfl | rfl | rfl | rfl | rfl | rfl | rfl | rfl <;> rfl
def flF (k : Nat) (F : Nat → Fa) (A : Nat → Option Addr) (C : Nat → Nat) : List Value := (List.range k).flatMap fun i => faL (F i) (A i) (C i)
theorem flF_succ (k : Nat) (F : Nat → Fa) (A : Nat → Option Addr) (C : Nat → Nat) : flF (k + 1) F A C = flF k F A C ++ faL (F k) (A k) (C k) := by
  unfold flF
  rw [List.range_succ, List.flatMap_append]
  simp
theorem flF_len (k : Nat) (F : Nat → Fa) (A : Nat → Option Addr) (C : Nat → Nat) : (flF k F A C).length = k * 8 := by
  induction k with
  | zero => rfl
  | succ k ih =>
    rw [flF_succ, List.length_append, ih]
    simp [faL]
    omega
theorem flF_one (k : Nat) (F : Nat → Fa) (A : Nat → Option Addr) (C : Nat → Nat) : ∀ u ∈ flF k F A C, u.oneCell' = true := by
  intro u hu
  obtain ⟨i, _, hi⟩ := List.mem_flatMap.1 hu
  exact faL_one _ _ _ u hi
theorem flF_get (k : Nat) (F : Nat → Fa) (A : Nat → Option Addr) (C : Nat → Nat) (i j : Nat) (hi : i < k) (hj : j < 8) : (flF k F A C)[i * 8 + j]? = (faL (F i) (A i) (C i))[j]? := by
  induction k with
  | zero => omega
  | succ k ih =>
    rw [flF_succ]
    by_cases e : i < k
    · rw [List.getElem?_append_left (by rw [flF_len]; omega), ih e]
    · obtain rfl : i = k := by omega
      rw [List.getElem?_append_right (by rw [flF_len]; omega), flF_len]
      congr 1
      omega
theorem FRow.at_ {w : World} {a : Option Addr} {len : Nat} {F : Nat → Fa} (h : FRow w a len F) (h0 : 0 < len) : ∃ (q off : Nat) (A : Nat → Option Addr) (C : Nat → Nat), a = some ⟨q, off, none⟩ ∧ ∀ i, i < len → (∀ j u, (faL (F i) (A i) (C i))[j]? = some u → w.cell? ⟨q, off + i * 8 + j, none⟩ = some u) ∧ Row8 w (A i) (F i).n (C i) (F i).b := by
  obtain ⟨q, off, _, _, rfl, _⟩ := h 0 h0
  have key : ∀ i, ∃ x : Option Addr × Nat, i < len → (∀ j u, (faL (F i) x.1 x.2)[j]? = some u → w.cell? ⟨q, off + i * 8 + j, none⟩ = some u) ∧ Row8 w x.1 (F i).n x.2 (F i).b := fun i => by
    by_cases hi : i < len
    · obtain ⟨q', off', da, dc, e, c0, c1, c2, c3, c4, c5, c6, c7, R⟩ := h i hi
      simp only [Option.some.injEq, Addr.mk.injEq] at e
      obtain ⟨rfl, rfl, _⟩ := e
      refine ⟨(da, dc), fun _ => ⟨fun j u hu => ?_, R⟩⟩
      have hj : j < 8 := by
        have := (List.getElem?_eq_some_iff.1 hu).1
        simpa [faL] using this
      have : j = 0 ∨ j = 1 ∨ j = 2 ∨ j = 3 ∨ j = 4 ∨ j = 5 ∨ j = 6 ∨ j = 7 := by omega
      rcases this with rfl | rfl | rfl | rfl | rfl | rfl | rfl | rfl
      all_goals
        simp [faL] at hu
        subst hu
        first | exact c0 | exact c1 | exact c2 | exact c3 | exact c4 | exact c5 | exact c6 | exact c7
    · exact ⟨(none, 0), fun q => absurd q hi⟩
  obtain ⟨X, hX⟩ := Classical.axiomOfChoice key
  exact ⟨q, off, fun i => (X i).1, fun i => (X i).2, rfl, fun i hi => hX i hi⟩
end Go.Proofs.Ythlgahkoignnkaa
