/- Layer 20: the number of a word: what the program reads and what the document reads (no model in this text but the seat's). -/
import Derived.Test.YtiikebaehoobnaaDoorSnu
namespace Go.Proofs.YtiikebaehoobnaaDoor
set_option maxRecDepth 100000
open Go.RowKit Go.Maps
set_option maxRecDepth 100000
/-- What decimal digits spell. -/
def dvF (a : Nat) (l : List UInt8) : Nat := l.foldl (fun n c => 10 * n + (c.toNat - 48)) a
def dv (l : List UInt8) : Nat := dvF 0 l
def isD (c : UInt8) : Bool := decide (48 ≤ c.toNat) && decide (c.toNat ≤ 57)
/-- Is the word a number; its head. -/
def hdZ (l : List UInt8) : Bool := decide ((l.getD 0 0).toNat = 48) && decide (1 < l.length)
def vlO (l : List UInt8) : Bool := decide (1 ≤ l.length) && decide (l.length ≤ 10) && !hdZ l && l.all isD && decide (dv l ≤ 4294967295)
theorem dvF_ge : ∀ (l : List UInt8) (a : Nat), a ≤ dvF a l
  | [], a => Nat.le_refl _
  | c :: r, a => by
    have := dvF_ge r (10 * a + (c.toNat - 48))
    show a ≤ dvF (10 * a + (c.toNat - 48)) r
    omega
theorem dvF_snoc (l : List UInt8) (c : UInt8) (a : Nat) : dvF a (l ++ [c]) = 10 * dvF a l + (c.toNat - 48) := by simp [dvF]
theorem parseM_iff : ∀ (l : List UInt8) (a u : Nat), a ≤ 4294967295 → (Lib.parseUintM 4294967295 a l = .ok u ↔ l.all isD = true ∧ dvF a l = u ∧ u ≤ 4294967295)
  | [], a, u, ha => by
    simp only [Lib.parseUintM, dvF, List.foldl_nil, List.all_nil]
    constructor
    · intro h
      cases h
      exact ⟨trivial, rfl, ha⟩
    · rintro ⟨_, rfl, _⟩
      rfl
  | c :: r, a, u, ha => by
    have e : dvF a (c :: r) = dvF (10 * a + (c.toNat - 48)) r := rfl
    rw [e]
    unfold Lib.parseUintM
    by_cases h : 48 ≤ c.toNat ∧ c.toNat ≤ 57
    · have hd : isD c = true := by simp [isD, h.1, h.2]
      rw [if_pos h, if_neg (by omega)]
      by_cases h2 : 4294967295 < a * 10 + (c.toNat - 48)
      · rw [if_pos h2]
        have := dvF_ge r (10 * a + (c.toNat - 48))
        constructor
        · intro q
          cases q
        · rintro ⟨_, e1, e2⟩
          omega
      · rw [if_neg h2, Nat.mul_comm a 10, parseM_iff r _ u (by omega)]
        simp [hd]
    · have hd : isD c = false := by
        simp only [isD, Bool.and_eq_false_iff, decide_eq_false_iff_not]
        omega
      rw [if_neg h]
      constructor
      · intro q
        cases q
      · rintro ⟨q, _⟩
        simp [hd] at q
theorem parseB_iff (l : List UInt8) (u : Nat) : Lib.parseUintB 32 l = .ok u ↔ 1 ≤ l.length ∧ l.all isD = true ∧ dv l = u ∧ u ≤ 4294967295 := by
  unfold Lib.parseUintB
  by_cases h : l = []
  · subst h
    simp
  · have hl : 1 ≤ l.length := by
      cases l with
      | nil => exact absurd rfl h
      | cons c r => simp
    rw [if_neg h, show 2 ^ 32 - 1 = 4294967295 from rfl, parseM_iff l 0 u (by omega)]
    simp [hl, dv]
theorem decDigits_ne (u : Nat) : Lib.decDigits u ≠ [] := by
  intro h
  have := Lib.decDigits_length u
  have := Lib.nDigits_pos u
  rw [h] at *
  simp at *
  omega
/-- A numeral's first digit is no zero, but for 0 itself. -/
theorem decDigits_head (u : Nat) (hu : 1 ≤ u) : ((Lib.decDigits u).getD 0 0).toNat ≠ 48 := by
  induction u using Nat.strongRecOn with
  | _ u ih =>
    by_cases h : u < 10
    · rw [Lib.decDigits_one h]
      show (UInt8.ofNat (48 + u)).toNat ≠ 48
      rw [UInt8.toNat_ofNat']
      omega
    · rw [Lib.decDigits, dif_neg h]
      have := ih (u / 10) (by omega) (by omega)
      have hn := decDigits_ne (u / 10)
      cases e : Lib.decDigits (u / 10) with
      | nil => exact absurd e hn
      | cons c r =>
        rw [e] at this
        simpa using this
theorem hdZ_dec (u : Nat) : hdZ (Lib.decDigits u) = false := by
  unfold hdZ
  by_cases h : u < 10
  · simp [Lib.decDigits_one h]
  · have := decDigits_head u (by omega)
    simp only [Bool.and_eq_false_iff, decide_eq_false_iff_not]
    exact .inl this
theorem ofNat48 {c : UInt8} (h : isD c = true) : UInt8.ofNat (48 + (c.toNat - 48)) = c := by
  simp only [isD, Bool.and_eq_true, decide_eq_true_eq] at h
  rw [show 48 + (c.toNat - 48) = c.toNat by omega]
  simp
theorem dec_snoc (k : Nat) : ∀ (l : List UInt8), l.length = k + 1 → l.all isD = true → hdZ l = false → Lib.decDigits (dv l) = l := by
  induction k with
  | zero =>
    intro l hl ha _
    match l, hl with
    | [c], _ =>
      have hd : isD c = true := by simpa using ha
      have hd2 := hd
      simp only [isD, Bool.and_eq_true, decide_eq_true_eq] at hd2
      rw [show dv [c] = c.toNat - 48 by simp [dv, dvF], Lib.decDigits_one (by omega), ofNat48 hd]
  | succ k ih =>
    intro l hl ha hz
    have hne : l ≠ [] := by
      intro h
      rw [h] at hl
      cases hl
    obtain ⟨m, c, rfl⟩ : ∃ m c, l = m ++ [c] := ⟨l.dropLast, l.getLast hne, (List.dropLast_concat_getLast hne).symm⟩
    have hm : m.length = k + 1 := by simpa using hl
    rw [List.all_append, Bool.and_eq_true] at ha
    have hd : isD c = true := by simpa using ha.2
    have hd2 := hd
    simp only [isD, Bool.and_eq_true, decide_eq_true_eq] at hd2
    have hh : (m.getD 0 0).toNat ≠ 48 := by
      unfold hdZ at hz
      simp only [Bool.and_eq_false_iff, decide_eq_false_iff_not] at hz
      cases m with
      | nil => cases hm
      | cons x y =>
        rcases hz with h | h
        · simpa using h
        · simp at h
    have hzm : hdZ m = false := by
      unfold hdZ
      simp only [Bool.and_eq_false_iff, decide_eq_false_iff_not]
      exact .inl hh
    have h1 : 1 ≤ dv m := by
      cases m with
      | nil => cases hm
      | cons x y =>
        have hx : isD x = true := by
          have := ha.1
          simp at this
          exact this.1
        simp only [isD, Bool.and_eq_true, decide_eq_true_eq] at hx
        have h48 : x.toNat ≠ 48 := by simpa using hh
        have := dvF_ge y (10 * 0 + (x.toNat - 48))
        show 1 ≤ dvF (10 * 0 + (x.toNat - 48)) y
        omega
    have e : dv (m ++ [c]) = 10 * dv m + (c.toNat - 48) := dvF_snoc m c 0
    rw [e, Lib.decDigits, dif_neg (by omega), show (10 * dv m + (c.toNat - 48)) / 10 = dv m by omega, show (10 * dv m + (c.toNat - 48)) % 10 = c.toNat - 48 by omega, ih m hm ha.1 hzm, ofNat48 hd]
theorem nDigits_le10 : ∀ (k u : Nat), u < 10 ^ (k + 1) → Lib.nDigits u ≤ k + 1
  | 0, u, h => by rw [Lib.nDigits_small (by simpa using h)]; exact Nat.le_refl _
  | k + 1, u, h => by
    by_cases g : u < 10
    · rw [Lib.nDigits_small g]; omega
    · rw [Lib.nDigits_big g]
      have := nDigits_le10 k (u / 10) (by rw [Nat.pow_succ] at h; omega)
      omega
/-- The two readings are one. -/
theorem nmO_vlO (l : List UInt8) : nmO l = vlO l := by
  by_cases h : vlO l = true
  · rw [h]
    unfold vlO at h
    simp only [Bool.and_eq_true, decide_eq_true_eq, Bool.not_eq_true'] at h
    obtain ⟨⟨⟨⟨h1, h2⟩, h3⟩, h4⟩, h5⟩ := h
    have hp := (parseB_iff l (dv l)).2 ⟨h1, h4, rfl, h5⟩
    unfold nmO
    rw [hp]
    show (Lib.decDigits (dv l) == l) = true
    rw [dec_snoc (l.length - 1) l (by omega) h4 h3]
    simp
  · rw [Bool.not_eq_true] at h
    rw [h]
    unfold nmO
    cases hp : Lib.parseUintB 32 l with
    | «syntax» => rfl
    | range => rfl
    | ok u =>
      obtain ⟨h1, h4, rfl, h5⟩ := (parseB_iff l u).1 hp
      show (Lib.decDigits (dv l) == l) = false
      cases hq : (Lib.decDigits (dv l) == l) with
      | false => rfl
      | true =>
        have e : Lib.decDigits (dv l) = l := by simpa using hq
        have z := hdZ_dec (dv l)
        rw [e] at z
        have hl : l.length ≤ 10 := by
          rw [← e, Lib.decDigits_length]
          exact nDigits_le10 9 _ (by omega)
        unfold vlO at h
        simp [h1, hl, z, h4, h5] at h
theorem nmV_dv (l : List UInt8) (h : vlO l = true) : nmV l = dv l := by
  unfold vlO at h
  simp only [Bool.and_eq_true, decide_eq_true_eq, Bool.not_eq_true'] at h
  obtain ⟨⟨⟨⟨h1, h2⟩, h3⟩, h4⟩, h5⟩ := h
  unfold nmV
  rw [(parseB_iff l (dv l)).2 ⟨h1, h4, rfl, h5⟩]
end Go.Proofs.YtiikebaehoobnaaDoor
