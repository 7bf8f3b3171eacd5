/- The cell of layer 8: writes in a row, the slots, the value (no program in it). -/
import Derived.Test.YtmleiemlfogffaaGreatMm2
namespace Go.Proofs.YtmleiemlfogffaaGreat
set_option maxRecDepth 100000
open Go.RowKit

/-- Writes in a row, till one doesn't go. -/
def sqE (n : Nat) : List (Nat × Nat) → Ms → Int
  | [], _ => 0
  | (p, c) :: r, s => if wrE s n (p : Nat) = 0 then sqE n r (wrS s n (p : Nat) c) else wrE s n (p : Nat)
def sqS (n : Nat) : List (Nat × Nat) → Ms → Ms
  | [], s => s
  | (p, c) :: r, s => if wrE s n (p : Nat) = 0 then sqS n r (wrS s n (p : Nat) c) else wrS s n (p : Nat) c
/-- Bytes laid in a row. -/
def lays : List (Nat × Nat) → (Nat → Nat) → Nat → Nat
  | [], z => z
  | (p, c) :: r, z => lays r (lay z p c)
theorem rch_ok {s : Ms} {n p : Nat} (hp : p < n) (ho : s.off = false) : rch s n (p : Nat) = 0 := by
  unfold rch
  rw [ho, if_neg (by simp), if_neg (by omega)]
theorem wr_or {s : Ms} {n p : Nat} (c : Nat) (hp : p < n) (ho : s.off = false) :
    (wrE s n (p : Nat) = 0 ∧ wrS s n (p : Nat) c = ⟨lay s.bs p c, false, s.ar, if s.ar then s.l - 1 else s.l, s.t + 1⟩ ∧ ¬ (s.ar = true ∧ s.l = 0)) ∨
    (wrE s n (p : Nat) = 70 ∧ wrS s n (p : Nat) c = { s with off := true } ∧ s.ar = true ∧ s.l = 0) := by
  have hr := rch_ok hp ho
  by_cases h : s.ar = true ∧ s.l = 0
  · exact .inr ⟨(wr_cut (c := c) hr h.1 h.2).1, (wr_cut (c := c) hr h.1 h.2).2, h.1, h.2⟩
  · refine .inl ⟨(if_neg (fun k => k hr)).trans (if_neg h), (if_neg (fun k => k hr)).trans ((if_neg h).trans ?_), h⟩
    rw [Int.toNat_natCast, ho]
theorem sq_all (n : Nat) : ∀ (l : List (Nat × Nat)) (s : Ms), (∀ x, x ∈ l → x.1 < n) → s.off = false → 0 ≤ s.l →
    (sqE n l s = 0 ∧ sqS n l s = ⟨lays l s.bs, false, s.ar, if s.ar then s.l - l.length else s.l, s.t + l.length⟩ ∧ (s.ar = true → (l.length : Int) ≤ s.l)) ∨
    (sqE n l s = 70 ∧ sqS n l s = ⟨lays (l.take s.l.toNat) s.bs, true, true, 0, s.t + s.l⟩ ∧ s.ar = true ∧ s.l < (l.length : Int))
  | [], ⟨_, off, ar, _, _⟩, _, ho, hl => .inl ⟨rfl, by simp only at ho; subst ho; cases ar <;> simp [sqS, lays], fun _ => hl⟩
  | (p, c) :: r, s, hin, ho, hl => by
    have hp : p < n := hin (p, c) (by simp)
    have hin' : ∀ x, x ∈ r → x.1 < n := fun x hx => hin x (by simp [hx])
    rcases wr_or c hp ho with ⟨hE, hS, hna⟩ | ⟨hE, hS, ha, h0⟩
    · have hl' : 0 ≤ (⟨lay s.bs p c, false, s.ar, if s.ar then s.l - 1 else s.l, s.t + 1⟩ : Ms).l := by
        cases ha : s.ar
        · simpa using hl
        · simp only [ha, true_and] at hna
          simp only [if_true]
          omega
      have ih := sq_all n r ⟨lay s.bs p c, false, s.ar, if s.ar then s.l - 1 else s.l, s.t + 1⟩ hin' rfl hl'
      have e1 : sqE n ((p, c) :: r) s = sqE n r ⟨lay s.bs p c, false, s.ar, if s.ar then s.l - 1 else s.l, s.t + 1⟩ := by
        rw [sqE, if_pos hE, hS]
      have e2 : sqS n ((p, c) :: r) s = sqS n r ⟨lay s.bs p c, false, s.ar, if s.ar then s.l - 1 else s.l, s.t + 1⟩ := by
        rw [sqS, if_pos hE, hS]
      rw [e1, e2]
      cases ha : s.ar
      · simp only [ha, lays, List.length_cons] at ih ⊢
        rcases ih with ⟨h1, h2, h3⟩ | ⟨h1, h2, h3, h4⟩
        · refine .inl ⟨h1, ?_, by simp⟩
          rw [h2]
          simp
          omega
        · simp at h3
      · simp only [ha, true_and] at hna
        simp only [ha, if_true, lays, List.length_cons] at ih ⊢
        rcases ih with ⟨h1, h2, h3⟩ | ⟨h1, h2, h3, h4⟩
        · refine .inl ⟨h1, ?_, fun _ => by have := h3 trivial; omega⟩
          rw [h2]
          simp
          omega
        · refine .inr ⟨h1, ?_, trivial, by omega⟩
          rw [h2]
          have e3 : s.l.toNat = (s.l - 1).toNat + 1 := by omega
          rw [e3]
          simp [lays]
          omega
    · refine .inr ⟨?_, ?_, ha, by rw [h0]; simp⟩
      · rw [sqE, if_neg (by rw [hE]; omega), hE]
      · rw [sqS, if_neg (by rw [hE]; omega), hS, h0, ha]
        simp [lays]
/-- A word's byte i, from the highest. -/
def bt (v i : Nat) : Nat := v / 2 ^ (8 * (3 - i)) % 256
/-- The six writes of a slot. -/
def six (k v : Nat) : List (Nat × Nat) := [(5 * k, 0), (5 * k + 1, bt v 0), (5 * k + 2, bt v 1), (5 * k + 3, bt v 2), (5 * k + 4, bt v 3), (5 * k, 165)]
/-- A slot's word. -/
def wz (z : Nat → Nat) (k : Nat) : Nat := z (5 * k + 1) * 16777216 + z (5 * k + 2) * 65536 + z (5 * k + 3) * 256 + z (5 * k + 4)
/-- The word that a slot holds, or 0. -/
def hw (z : Nat → Nat) (k : Nat) : Nat := if z (5 * k) = 165 then wz z k else 0
/-- The value. -/
def vz (z : Nat → Nat) : Nat := max (hw z 0) (hw z 1)
/-- The slot that the next number goes into. -/
def tg (z : Nat → Nat) : Nat := if z 0 = 165 ∧ (z 5 ≠ 165 ∨ wz z 1 < wz z 0) then 1 else 0
/-- What Open writes. -/
def mend (z : Nat → Nat) : List (Nat × Nat) :=
  if z 0 = 165 then (if z 5 = 165 then [] else six 1 (wz z 0)) else if z 5 = 165 then six 0 (wz z 1) else
  if z 0 ≠ 0 then (if z 5 ≠ 0 then [(0, 0), (5, 0)] else [(0, 0)]) else (if z 5 ≠ 0 then [(5, 0)] else [])
def Bz (z : Nat → Nat) : Prop := ∀ i, i < 10 → z i < 256
theorem wz_lt {z : Nat → Nat} (h : Bz z) (k : Nat) (hk : k < 2) : wz z k < 4294967296 := by
  unfold wz
  have h1 := h (5 * k + 1) (by omega)
  have h2 := h (5 * k + 2) (by omega)
  have h3 := h (5 * k + 3) (by omega)
  have h4 := h (5 * k + 4) (by omega)
  omega
theorem hw_lt {z : Nat → Nat} (h : Bz z) (k : Nat) (hk : k < 2) : hw z k < 4294967296 := by
  unfold hw
  have := wz_lt h k hk
  split <;> omega
theorem vz_lt {z : Nat → Nat} (h : Bz z) : vz z < 4294967296 := by
  have := hw_lt h 0 (by omega)
  have := hw_lt h 1 (by omega)
  unfold vz
  omega
theorem bt_lt (v i : Nat) : bt v i < 256 := Nat.mod_lt _ (by omega)
theorem bt_word (v : Nat) (h : v < 4294967296) : bt v 0 * 16777216 + bt v 1 * 65536 + bt v 2 * 256 + bt v 3 = v := by
  have e : bt v 0 = v / 16777216 % 256 ∧ bt v 1 = v / 65536 % 256 ∧ bt v 2 = v / 256 % 256 ∧ bt v 3 = v / 1 % 256 := ⟨rfl, rfl, rfl, rfl⟩
  omega
theorem six_in (k v n : Nat) (hk : k < 2) (hn : 10 ≤ n) : ∀ x, x ∈ six k v → x.1 < n ∧ x.2 < 256 := by
  intro x hx
  have := bt_lt v
  simp only [six, List.mem_cons, List.not_mem_nil, or_false] at hx
  rcases hx with rfl | rfl | rfl | rfl | rfl | rfl <;> refine ⟨by simp only; omega, ?_⟩ <;> simp only <;> first | omega | exact this _
/-- A slot that is written whole. -/
theorem six_mark (z : Nat → Nat) (k v : Nat) : lays (six k v) z (5 * k) = 165 := by simp [six, lays, lay]
theorem six_wz (z : Nat → Nat) (k v : Nat) (h : v < 4294967296) : wz (lays (six k v) z) k = v := by
  have e := bt_word v h
  simp only [wz, six, lays, lay]
  simp
  omega
theorem six_else (z : Nat → Nat) (k v j : Nat) (i : Nat) (h : i < 5 * k ∨ 5 * k + 4 < i) : lays ((six k v).take j) z i = z i := by
  have : ∀ j', j' ≤ 6 → lays ((six k v).take j') z i = z i := by
    intro j' hj
    have : j' = 0 ∨ j' = 1 ∨ j' = 2 ∨ j' = 3 ∨ j' = 4 ∨ j' = 5 ∨ j' = 6 := by omega
    have e0 : i ≠ 5 * k := by omega
    have e1 : i ≠ 5 * k + 1 := by omega
    have e2 : i ≠ 5 * k + 2 := by omega
    have e3 : i ≠ 5 * k + 3 := by omega
    have e4 : i ≠ 5 * k + 4 := by omega
    rcases this with rfl | rfl | rfl | rfl | rfl | rfl | rfl <;> simp [six, lays, lay, e0, e1, e2, e3, e4]
  by_cases hj : j ≤ 6
  · exact this j hj
  · have e : (six k v).take j = (six k v).take 6 := by rw [List.take_of_length_le (by simp [six]; omega), List.take_of_length_le (by simp [six])]
    rw [e]
    exact this 6 (by omega)
/-- A slot that was cut. -/
theorem six_cut (z : Nat → Nat) (k v j : Nat) (h0 : 0 < j) (h : j < 6) : lays ((six k v).take j) z (5 * k) = 0 := by
  have : j = 1 ∨ j = 2 ∨ j = 3 ∨ j = 4 ∨ j = 5 := by omega
  rcases this with rfl | rfl | rfl | rfl | rfl <;> simp [six, lays, lay]
theorem hw_six (z : Nat → Nat) (k v : Nat) (h : v < 4294967296) : hw (lays (six k v) z) k = v := by
  unfold hw
  rw [six_mark, if_pos rfl, six_wz z k v h]
theorem hw_other (z : Nat → Nat) (k k' v j : Nat) (h : k ≠ k') : hw (lays ((six k v).take j) z) k' = hw z k' := by
  unfold hw wz
  rw [six_else z k v j _ (by omega), six_else z k v j _ (by omega), six_else z k v j _ (by omega), six_else z k v j _ (by omega), six_else z k v j _ (by omega)]
theorem six_take (k v : Nat) : (six k v).take 6 = six k v := rfl
theorem hw_other' (z : Nat → Nat) (k k' v : Nat) (h : k ≠ k') : hw (lays (six k v) z) k' = hw z k' := hw_other z k k' v 6 h
theorem hw_cut (z : Nat → Nat) (k v j : Nat) (h : j < 6) : j = 0 ∨ hw (lays ((six k v).take j) z) k = 0 := by
  by_cases h0 : j = 0
  · exact .inl h0
  · refine .inr ?_
    unfold hw
    rw [six_cut z k v j (by omega) h, if_neg (by omega)]
theorem tg_lt (z : Nat → Nat) : tg z < 2 := by
  unfold tg
  split <;> omega
theorem tg_le (z : Nat → Nat) : hw z (tg z) ≤ hw z (1 - tg z) := by
  unfold tg
  by_cases h : z 0 = 165 ∧ (z 5 ≠ 165 ∨ wz z 1 < wz z 0)
  · rw [if_pos h]
    unfold hw
    simp only [Nat.mul_one, Nat.mul_zero, Nat.sub_self, h.1, if_true]
    split <;> omega
  · rw [if_neg h]
    unfold hw
    simp only [Nat.mul_one, Nat.mul_zero, Nat.sub_zero]
    by_cases h0 : z 0 = 165
    · have h5 : z 5 = 165 := by omega
      rw [if_pos h0, if_pos h5]
      omega
    · rw [if_neg h0]
      omega
theorem vz_two (z : Nat → Nat) (k : Nat) (hk : k < 2) : vz z = max (hw z k) (hw z (1 - k)) := by
  have : k = 0 ∨ k = 1 := by omega
  rcases this with rfl | rfl
  · rfl
  · unfold vz
    exact Nat.max_comm _ _
theorem vz_next (z : Nat → Nat) (v : Nat) (h : v < 4294967296) (hv : vz z ≤ v) : vz (lays (six (tg z) v) z) = v := by
  have hk := tg_lt z
  rw [vz_two _ _ hk, hw_six z _ v h, hw_other' z _ _ v (by omega)]
  rw [vz_two z _ hk] at hv
  omega
theorem vz_cut (z : Nat → Nat) (v j : Nat) (h : j < 6) : vz (lays ((six (tg z) v).take j) z) = vz z := by
  have hk := tg_lt z
  have hl := tg_le z
  rcases hw_cut z (tg z) v j h with rfl | h0
  · rfl
  · rw [vz_two _ _ hk, h0, hw_other z _ _ v j (by omega), vz_two z _ hk]
    omega
theorem hw_no {z : Nat → Nat} {k : Nat} (h : z (5 * k) ≠ 165) : hw z k = 0 := if_neg h
theorem vz_six (z : Nat → Nat) (k j : Nat) (hz : Bz z) (hk : k < 2) (h0 : z (5 * k) ≠ 165) (h1 : z (5 * (1 - k)) = 165) : vz (lays ((six k (wz z (1 - k))).take j) z) = vz z := by
  have e0 := hw_no h0
  have e1 : hw z (1 - k) = wz z (1 - k) := if_pos h1
  have hl := wz_lt hz (1 - k) (by omega)
  by_cases h : j < 6
  · rcases hw_cut z k (wz z (1 - k)) j h with rfl | e
    · rfl
    · rw [vz_two _ _ hk, e, hw_other z _ _ _ j (by omega), vz_two z _ hk, e0]
  · have e : (six k (wz z (1 - k))).take j = six k (wz z (1 - k)) := List.take_of_length_le (by simp [six]; omega)
    rw [e, vz_two _ _ hk, hw_six z k _ hl, hw_other' z _ _ _ (by omega), vz_two z _ hk, e0, e1]
    omega
theorem vz_zero {z : Nat → Nat} (h0 : z 0 ≠ 165) (h1 : z 5 ≠ 165) : vz z = 0 := by
  unfold vz
  rw [hw_no h0, hw_no h1]
  rfl
theorem vz_mend (z : Nat → Nat) (j : Nat) (hz : Bz z) : vz (lays ((mend z).take j) z) = vz z := by
  unfold mend
  by_cases h0 : z 0 = 165
  · rw [if_pos h0]
    by_cases h1 : z 5 = 165
    · rw [if_pos h1]
      simp [lays]
    · rw [if_neg h1]
      exact vz_six z 1 j hz (by omega) h1 h0
  · rw [if_neg h0]
    by_cases h1 : z 5 = 165
    · rw [if_pos h1]
      exact vz_six z 0 j hz (by omega) h0 h1
    · rw [if_neg h1, vz_zero h0 h1]
      have H : ∀ l : List (Nat × Nat), (∀ x, x ∈ l → x.2 = 0) → ∀ z : Nat → Nat, z 0 ≠ 165 → z 5 ≠ 165 → vz (lays l z) = 0 := by
        intro l
        induction l with
        | nil => intro _ z h0 h1; exact vz_zero h0 h1
        | cons x r ih =>
          intro hx z h0 h1
          obtain ⟨p, c⟩ := x
          have hc : c = 0 := hx (p, c) (by simp)
          subst hc
          refine ih (fun y hy => hx y (by simp [hy])) _ ?_ ?_
          · unfold lay; split <;> omega
          · unfold lay; split <;> omega
      refine H _ (fun x hx => ?_) z h0 h1
      have := List.mem_of_mem_take hx
      split at this <;> split at this <;> simp at this <;> first | omega | (rcases this with rfl | rfl <;> rfl) | (subst this; rfl)
theorem mend_in (z : Nat → Nat) (n : Nat) (hn : 10 ≤ n) : ∀ x, x ∈ mend z → x.1 < n ∧ x.2 < 256 := by
  intro x hx
  unfold mend at hx
  split at hx
  · split at hx
    · simp at hx
    · exact six_in 1 _ n (by omega) hn x hx
  · split at hx
    · exact six_in 0 _ n (by omega) hn x hx
    · split at hx <;> split at hx <;> simp at hx <;> first | (rcases hx with rfl | rfl <;> exact ⟨by simp only; omega, by simp only; omega⟩) | (subst hx; exact ⟨by simp only; omega, by simp only; omega⟩)
theorem mend_len (z : Nat → Nat) : (mend z).length ≤ 6 := by
  unfold mend
  split
  · split <;> simp [six]
  · split
    · simp [six]
    · split <;> split <;> simp

end Go.Proofs.YtmleiemlfogffaaGreat
