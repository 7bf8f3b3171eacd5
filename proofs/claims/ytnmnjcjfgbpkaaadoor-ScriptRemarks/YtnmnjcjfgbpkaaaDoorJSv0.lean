/- Layer 20: the number of a word: what the program reads and what the document reads (no model in this text but the seat's). -/
import Derived.Test.YtnmnjcjfgbpkaaaDoorJSfu
namespace Go.Proofs.YtnmnjcjfgbpkaaaDoor
set_option maxRecDepth 100000
open Go.RowKit Go.Maps
set_option maxRecDepth 100000
/-- What decimal digits spell. -/
def dvF (a : Nat) (l : List UInt8) : Nat := l.foldl (fun n c => 10 * n + (c.toNat - 48)) a
def dv (l : List UInt8) : Nat := dvF 0 l
def isD (c : UInt8) : Bool := decide (48 ≤ c.toNat) && decide (c.toNat ≤ 57)
/-- Is the word a number; its head. -/
def hdZ (l : List UInt8) : Bool := decide ((l.getD 0 0).toNat = 48) && decide (1 < l.length)
def vlO (l : List UInt8) : Bool := decide (1 ≤ l.length) && decide (l.length ≤ 10) && !hdZ l && l.all isD && decide (dv l ≤ 4294967295)
theorem dvF_ge : ∀ (l : List UInt8) (a : Nat), a ≤ dvF a l
  | [], a => Nat.le_refl _
  | c :: r, a => by
    have := dvF_ge r (10 * a + (c.toNat - 48))
    show a ≤ dvF (10 * a + (c.toNat - 48)) r
    omega
theorem dvF_snoc (l : List UInt8) (c : UInt8) (a : Nat) : dvF a (l ++ [c]) = 10 * dvF a l + (c.toNat - 48) := by simp [dvF]
theorem parseM_iff : ∀ (l : List UInt8) (a u : Nat), a ≤ 4294967295 → (Lib.parseUintM 4294967295 a l = .ok u ↔ l.all isD = true ∧ dvF a l = u ∧ u ≤ 4294967295)
  | [], a, u, ha => by
    simp only [Lib.parseUintM, dvF, List.foldl_nil, List.all_nil]
    constructor
    · intro h
      cases h
      exact ⟨trivial, rfl, ha⟩
    · rintro ⟨_, rfl, _⟩
      rfl
  | c :: r, a, u, ha => by
    have e : dvF a (c :: r) = dvF (10 * a + (c.toNat - 48)) r := rfl
    rw [e]
    unfold Lib.parseUintM
    by_cases h : 48 ≤ c.toNat ∧ c.toNat ≤ 57
    · have hd : isD c = true := by simp [isD, h.1, h.2]
      rw [if_pos h, if_neg (by omega)]
      by_cases h2 : 4294967295 < a * 10 + (c.toNat - 48)
      · rw [if_pos h2]
        have := dvF_ge r (10 * a + (c.toNat - 48))
        constructor
        · intro q
          cases q
        · rintro ⟨_, e1, e2⟩
          omega
      · rw [if_neg h2, Nat.mul_comm a 10, parseM_iff r _ u (by omega)]
        simp [hd]
    · have hd : isD c = false := by
        simp only [isD, Bool.and_eq_false_iff, decide_eq_false_iff_not]
        omega
      rw [if_neg h]
      constructor
      · intro q
        cases q
      · rintro ⟨q, _⟩
        simp [hd] at q
theorem parseB_iff (l : List UInt8) (u : Nat) : Lib.parseUintB 32 l = .ok u ↔ 1 ≤ l.length ∧ l.all isD = true ∧ dv l = u ∧ u ≤ 4294967295 := by
  unfold Lib.parseUintB
  by_cases h : l = []
  · subst h
    simp
  · have hl : 1 ≤ l.length := by
      cases l with
      | nil => exact absurd rfl h
      | cons c r => simp
    rw [if_neg h, show 2 ^ 32 - 1 = 4294967295 from rfl, parseM_iff l 0 u (by omega)]
    simp [hl, dv]
theorem decDigits_ne (u : Nat) : Lib.decDigits u ≠ [] := by
  intro h
  have := Lib.decDigits_length u
  have := Lib.nDigits_pos u
  rw [h] at *
  simp at *
  omega
/-- A numeral's first digit is no zero, but for 0 itself. -/
theorem decDigits_head (u : Nat) (hu : 1 ≤ u) : ((Lib.decDigits u).getD 0 0).toNat ≠ 48 := by
  induction u using Nat.strongRecOn with
  | _ u ih =>
    by_cases h : u < 10
    · rw [Lib.decDigits_one h]
      show (UInt8.ofNat (48 + u)).toNat ≠ 48
      rw [UInt8.toNat_ofNat']
      omega
    · rw [Lib.decDigits, dif_neg h]
      have := ih (u / 10) (by omega) (by omega)
      have hn := decDigits_ne (u / 10)
      cases e : Lib.decDigits (u / 10) with
      | nil => exact absurd e hn
      | cons c r =>
        rw [e] at this
        simpa using this
theorem hdZ_dec (u : Nat) : hdZ (Lib.decDigits u) = false := by
  unfold hdZ
  by_cases h : u < 10
  · simp [Lib.decDigits_one h]
  · have := decDigits_head u (by omega)
    simp only [Bool.and_eq_false_iff, decide_eq_false_iff_not]
    exact .inl this
theorem ofNat48 {c : UInt8} (h : isD c = true) : UInt8.ofNat (48 + (c.toNat - 48)) = c := by
  simp only [isD, Bool.and_eq_true, decide_eq_true_eq] at h
  rw [show 48 + (c.toNat - 48) = c.toNat by omega]
  simp
theorem dec_snoc (k : Nat) : ∀ (l : List UInt8), l.length = k + 1 → l.all isD = true → hdZ l = false → Lib.decDigits (dv l) = l := by
  induction k with
  | zero =>
    intro l hl ha _
    match l, hl with
    | [c], _ =>
      have hd : isD c = true := by simpa using ha
      have hd2 := hd
      simp only [isD, Bool.and_eq_true, decide_eq_true_eq] at hd2
      rw [show dv [c] = c.toNat - 48 by simp [dv, dvF], Lib.decDigits_one (by omega), ofNat48 hd]
  | succ k ih =>
    intro l hl ha hz
    have hne : l ≠ [] := by
      intro h
      rw [h] at hl
      cases hl
    obtain ⟨m, c, rfl⟩ : ∃ m c, l = m ++ [c] := ⟨l.dropLast, l.getLast hne, (List.dropLast_concat_getLast hne).symm⟩
    have hm : m.length = k + 1 := by simpa using hl
    rw [List.all_append, Bool.and_eq_true] at ha
    have hd : isD c = true := by simpa using ha.2
    have hd2 := hd
    simp only [isD, Bool.and_eq_true, decide_eq_true_eq] at hd2
    have hh : (m.getD 0 0).toNat ≠ 48 := by
      unfold hdZ at hz
      simp only [Bool.and_eq_false_iff, decide_eq_false_iff_not] at hz
      cases m with
      | nil => cases hm
      | cons x y =>
        rcases hz with h | h
        · simpa using h
        · simp at h
    have hzm : hdZ m = false := by
      unfold hdZ
      simp only [Bool.and_eq_false_iff, decide_eq_false_iff_not]
      exact .inl hh
    have h1 : 1 ≤ dv m := by
      cases m with
      | nil => cases hm
      | cons x y =>
        have hx : isD x = true := by
          have := ha.1
          simp at this
          exact this.1
        simp only [isD, Bool.and_eq_true, decide_eq_true_eq] at hx
        have h48 : x.toNat ≠ 48 := by simpa using hh
        have := dvF_ge y (10 * 0 + (x.toNat - 48))
        show 1 ≤ dvF (10 * 0 + (x.toNat - 48)) y
        omega
    have e : dv (m ++ [c]) = 10 * dv m + (c.toNat - 48) := dvF_snoc m c 0
    rw [e, Lib.decDigits, dif_neg (by omega), show (10 * dv m + (c.toNat - 48)) / 10 = dv m by omega, show (10 * dv m + (c.toNat - 48)) % 10 = c.toNat - 48 by omega, ih m hm ha.1 hzm, ofNat48 hd]
theorem nDigits_le10 : ∀ (k u : Nat), u < 10 ^ (k + 1) → Lib.nDigits u ≤ k + 1
  | 0, u, h => by rw [Lib.nDigits_small (by simpa using h)]; exact Nat.le_refl _
  | k + 1, u, h => by
    by_cases g : u < 10
    · rw [Lib.nDigits_small g]; omega
    · rw [Lib.nDigits_big g]
      have := nDigits_le10 k (u / 10) (by rw [Nat.pow_succ] at h; omega)
      omega
/-- The two readings are one. -/
theorem nmO_vlO (l : List UInt8) : nmO l = vlO l := by
  by_cases h : vlO l = true
  · rw [h]
    unfold vlO at h
    simp only [Bool.and_eq_true, decide_eq_true_eq, Bool.not_eq_true'] at h
    obtain ⟨⟨⟨⟨h1, h2⟩, h3⟩, h4⟩, h5⟩ := h
    have hp := (parseB_iff l (dv l)).2 ⟨h1, h4, rfl, h5⟩
    unfold nmO
    rw [hp]
    show (Lib.decDigits (dv l) == l) = true
    rw [dec_snoc (l.length - 1) l (by omega) h4 h3]
    simp
  · rw [Bool.not_eq_true] at h
    rw [h]
    unfold nmO
    cases hp : Lib.parseUintB 32 l with
    | «syntax» => rfl
    | range => rfl
    | ok u =>
      obtain ⟨h1, h4, rfl, h5⟩ := (parseB_iff l u).1 hp
      show (Lib.decDigits (dv l) == l) = false
      cases hq : (Lib.decDigits (dv l) == l) with
      | false => rfl
      | true =>
        have e : Lib.decDigits (dv l) = l := by simpa using hq
        have z := hdZ_dec (dv l)
        rw [e] at z
        have hl : l.length ≤ 10 := by
          rw [← e, Lib.decDigits_length]
          exact nDigits_le10 9 _ (by omega)
        unfold vlO at h
        simp [h1, hl, z, h4, h5] at h
theorem nmV_dv (l : List UInt8) (h : vlO l = true) : nmV l = dv l := by
  unfold vlO at h
  simp only [Bool.and_eq_true, decide_eq_true_eq, Bool.not_eq_true'] at h
  obtain ⟨⟨⟨⟨h1, h2⟩, h3⟩, h4⟩, h5⟩ := h
  unfold nmV
  rw [(parseB_iff l (dv l)).2 ⟨h1, h4, rfl, h5⟩]
end Go.Proofs.YtnmnjcjfgbpkaaaDoor
namespace Go.Proofs.YtnmnjcjfgbpkaaaDoor
set_option maxRecDepth 100000
open Go.RowKit Go.Maps
set_option maxRecDepth 100000
set_option linter.unusedVariables false
def vlV (l : List UInt8) : Nat := if vlO l then dv l else 0
theorem take_getD (l : List UInt8) (i : Nat) (h : i < l.length) : l.take (i + 1) = l.take i ++ [l.getD i 0] := by
  rw [List.take_add_one, List.getElem?_eq_getElem h, List.getD_eq_getElem?_getD, List.getElem?_eq_getElem h]
  rfl
theorem vlO_not {l : List UInt8} (i : Nat) (h : i < l.length) (hd : isD (l.getD i 0) = false) : vlO l = false := by
  have : l.all isD = false := by
    rw [List.all_eq_false]
    refine ⟨l.getD i 0, ?_, by rw [hd]; decide⟩
    rw [List.getD_eq_getElem?_getD, List.getElem?_eq_getElem h]
    exact List.getElem_mem _
  simp [vlO, this]
set_option maxHeartbeats 1000000 in
theorem rvalue (l : List UInt8) (w : World) : Calls Tryd.prog 48 #[.string (tx l)] w fun r w' => r = .returned (.tuple #[.int .i64 ((vlV l : Nat) : Int), .bool (vlO l)]) ∧ w' = w := by
  have hs := sidx l
  have hXs : (tx l).size = l.length := tx_size l
  obtain ⟨X, hX⟩ : ∃ x, tx l = x := ⟨_, rfl⟩
  rw [hX] at hs hXs ⊢
  obtain ⟨V, hV⟩ : ∃ x, vlV l = x := ⟨_, rfl⟩
  obtain ⟨O, hO⟩ : ∃ x, vlO l = x := ⟨_, rfl⟩
  rw [hV, hO]
  have no : vlO l = false → V = 0 ∧ O = false := fun h => by
    rw [← hV, ← hO]
    unfold vlV
    simp [h]
  have yes : vlO l = true → V = dv l ∧ O = true := fun h => by
    rw [← hV, ← hO]
    unfold vlV
    simp [h]
  have HV : Hid (_) := And.intro no yes
  have HXs : Hid (X.size = l.length) := hXs
  clear hX hV hO no yes hXs
  by_cases h0 : l.length = 0
  · have q0 : ((X.size : Nat) : Int) = 0 := by have := HXs.out; omega
    obtain ⟨rfl, rfl⟩ := HV.out.1 (by simp [vlO, h0])
    clear hs
    go_enter Tryd.func48, Tryd.ntmps48
    go_wp2_with fail
    go_ret2
    exact ⟨rfl, rfl⟩
  have q0 : ((((X.size : Nat) : Int)) == 0) = false := beq_eq_false_iff_ne.2 (by have := HXs.out; omega)
  by_cases h10 : 10 < l.length
  · have q1 : (10 : Int) < ((X.size : Nat) : Int) := by have := HXs.out; omega
    obtain ⟨rfl, rfl⟩ := HV.out.1 (by simp [vlO, show ¬ l.length ≤ 10 by omega])
    clear hs
    go_enter Tryd.func48, Tryd.ntmps48
    go_wp2_with fail
    go_ret2
    exact ⟨rfl, rfl⟩
  have q1 : ¬ (10 : Int) < ((X.size : Nat) : Int) := by have := HXs.out; omega
  have s0 : ∀ w, (Instr.index 9 (.string X) (.int .i64 0)).run Tryd.prog w = .ok (.int .u8 (((l.getD 0 0).toNat : Nat) : Int)) w := hs 0 (by omega)
  by_cases hz : hdZ l = true
  · have hz2 := hz
    unfold hdZ at hz2
    simp only [Bool.and_eq_true, decide_eq_true_eq] at hz2
    rw [hz2.1] at s0
    have q2 : (1 : Int) < ((X.size : Nat) : Int) := by have := HXs.out; omega
    obtain ⟨rfl, rfl⟩ := HV.out.1 (by simp [vlO, hz])
    clear hs
    go_enter Tryd.func48, Tryd.ntmps48
    go_wp2_with fail
    go_ret2
    exact ⟨rfl, rfl⟩
  have hl2 : (l.getD 0 0).toNat ≠ 48 ∨ ¬ (1 : Int) < ((X.size : Nat) : Int) := by
    unfold hdZ at hz
    simp only [Bool.and_eq_true, decide_eq_true_eq] at hz
    have := HXs.out
    omega
  have hz' : hdZ l = false := by simpa using hz
  have HZ : Hid (hdZ l = false) := hz'
  obtain ⟨c0, hc0⟩ : ∃ x, (l.getD 0 0).toNat = x := ⟨_, rfl⟩
  rw [hc0] at s0 hl2
  clear hz hz' hc0
  have two : (c0 = 48 ∧ ¬ (1 : Int) < ((X.size : Nat) : Int)) ∨ ¬ ((c0 : Nat) : Int) = 48 := by have := HXs.out; omega
  clear hl2
  rcases two with ⟨rfl, q2⟩ | q3
  all_goals
    go_enter Tryd.func48, Tryd.ntmps48
    go_wp2_with fail
    clear s0
    go_loopw [4, 5, 24, 25, 26, 27, 28, 29, 30, 31, 32, 33, 34, 35, 36, 37, 38, 39, 40, 41, 42, 43, 44, 45, 46, 47] (fun v c _ _ _ _ _ _ _ _ _ _ _ _ _ _ _ _ _ _ _ _ _ _ _ _ wr => ∃ i n : Nat, i ≤ l.length ∧ v = .int .i64 ((n : Nat) : Int) ∧ c = .int .i64 ((i : Nat) : Int) ∧ Hid (n = dv (l.take i) ∧ (l.take i).all isD = true ∧ n < 10 ^ i) ∧ wr = w) (fun _ c _ _ _ _ _ _ _ _ _ _ _ _ _ _ _ _ _ _ _ _ _ _ _ _ _ => l.length - natV c)
    case atStart => exact ⟨0, 0, by omega, rfl, rfl, ⟨rfl, rfl, by decide⟩, rfl⟩
    case round =>
      obtain ⟨i, n, hi, rfl, rfl, HI, hwr⟩ := hrel
      rw [hwr]
      clear hwr
      by_cases hlt : i < l.length
      · have hlt' : ((i : Nat) : Int) < ((X.size : Nat) : Int) := by have := HXs.out; omega
        have s1 := hs i hlt
        clear hs
        have hw1 : IntKind.i64.wrap (((i : Nat) : Int) + 1) = ((i + 1 : Nat) : Int) := by rw [IntKind.wrap_i64]; omega
        have hD : isD (l.getD i 0) = (decide (48 ≤ (l.getD i 0).toNat) && decide ((l.getD i 0).toNat ≤ 57)) := rfl
        obtain ⟨cc, hcc⟩ : ∃ x, (l.getD i 0).toNat = x := ⟨_, rfl⟩
        have h256 : cc < 256 := by rw [← hcc]; exact UInt8.toNat_lt _
        rw [hcc] at s1 hD
        have HD : Hid (_) := And.intro hD hcc
        clear hcc hD
        by_cases hA : cc < 48
        · have qA : ((cc : Nat) : Int) < 48 := by omega
          obtain ⟨rfl, rfl⟩ := HV.out.1 (vlO_not i hlt (by rw [HD.out.1]; simp; omega))
          go_wp2_with fail
          go_ret2
          exact ⟨rfl, rfl⟩
        have qA : ¬ ((cc : Nat) : Int) < 48 := by omega
        by_cases hB : 57 < cc
        · have qB : (57 : Int) < ((cc : Nat) : Int) := by omega
          obtain ⟨rfl, rfl⟩ := HV.out.1 (vlO_not i hlt (by rw [HD.out.1]; simp; omega))
          go_wp2_with fail
          go_ret2
          exact ⟨rfl, rfl⟩
        have qB : ¬ (57 : Int) < ((cc : Nat) : Int) := by omega
        have hp : n < 10000000000 := by
          have := Nat.pow_le_pow_right (n := 10) (by decide) (show i ≤ 10 by omega)
          have := HI.out.2.2
          omega
        have e1 : IntKind.i64.wrap (10 * ((n : Nat) : Int)) = ((10 * n : Nat) : Int) := by rw [IntKind.wrap_i64]; omega
        have e2 : IntKind.i64.wrap ((cc : Nat) : Int) = ((cc : Nat) : Int) := by rw [IntKind.wrap_i64]; omega
        have e3 : IntKind.i64.wrap (((10 * n : Nat) : Int) + ((cc : Nat) : Int)) = ((10 * n + cc : Nat) : Int) := by rw [IntKind.wrap_i64]; omega
        have e4 : IntKind.i64.wrap (((10 * n + cc : Nat) : Int) - 48) = ((10 * n + (cc - 48) : Nat) : Int) := by rw [IntKind.wrap_i64]; omega
        obtain ⟨m1, hm1⟩ : ∃ x, 10 * n = x := ⟨_, rfl⟩
        obtain ⟨m2, hm2⟩ : ∃ x, m1 + cc = x := ⟨_, rfl⟩
        obtain ⟨m3, hm3⟩ : ∃ x, m1 + (cc - 48) = x := ⟨_, rfl⟩
        rw [hm1] at e1 e3 e4
        rw [hm2] at e3 e4
        rw [hm3] at e4
        obtain ⟨i1, hi1⟩ : ∃ x, i + 1 = x := ⟨_, rfl⟩
        rw [hi1] at hw1
        have HM : Hid (_) := And.intro hm1 (And.intro hm2 (And.intro hm3 hi1))
        clear hm1 hm2 hm3 hi1 hp
        go_wp2_with fail
        go_roundw
        case rel =>
          refine ⟨i1, m3, by have := HM.out.2.2.2; omega, rfl, rfl, ?_, by first | rfl | trivial⟩
          obtain ⟨r1, r2, r3, r4⟩ := HM.out
          obtain ⟨k1, k2, k3⟩ := HI.out
          show m3 = dv (l.take i1) ∧ (l.take i1).all isD = true ∧ m3 < 10 ^ i1
          rw [← r4, take_getD l i hlt]
          refine ⟨?_, ?_, ?_⟩
          · have := dvF_snoc (l.take i) (l.getD i 0) 0
            show m3 = dvF 0 (l.take i ++ [l.getD i 0])
            rw [this, HD.out.2]
            have : dvF 0 (l.take i) = n := k1.symm
            omega
          · rw [List.all_append, k2]
            have : isD (l.getD i 0) = true := by rw [HD.out.1]; simp; omega
            show (true && ([l.getD i 0].all isD)) = true
            rw [List.all_cons, this]
            rfl
          · rw [Nat.pow_succ]
            omega
        case measure => simp [natV] <;> (have := HM.out.2.2.2; omega)
      · obtain rfl : i = l.length := by omega
        have hlt' : ¬ ((l.length : Nat) : Int) < ((X.size : Nat) : Int) := by have := HXs.out; omega
        have hI := HI.out
        rw [List.take_length] at hI
        have HJ : Hid (_) := hI
        clear hI HI
        by_cases hM : 4294967295 < n
        · have qM : (4294967295 : Int) < ((n : Nat) : Int) := by omega
          obtain ⟨rfl, rfl⟩ := HV.out.1 (by
            have k : decide (dv l ≤ 4294967295) = false := by rw [← HJ.out.1]; simp; omega
            unfold vlO
            rw [k, Bool.and_false])
          go_wp2_with fail
          go_ret2
          exact ⟨rfl, rfl⟩
        · have qM : ¬ (4294967295 : Int) < ((n : Nat) : Int) := by omega
          obtain ⟨rfl, rfl⟩ := HV.out.2 (by
            have k := HJ.out
            unfold vlO
            rw [HZ.out, k.2.1, ← k.1]
            simp
            omega)
          go_wp2_with fail
          go_ret2
          exact ⟨by rw [HJ.out.1]; rfl, rfl⟩
end Go.Proofs.YtnmnjcjfgbpkaaaDoor
