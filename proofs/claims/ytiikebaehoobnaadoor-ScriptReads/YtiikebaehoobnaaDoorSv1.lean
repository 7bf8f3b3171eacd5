/- Layer 20: the document's Value, digit; the reader's data and hold. -/
import Derived.Test.YtiikebaehoobnaaDoorSv0
import Derived.Test.YtiikebaehoobnaaDoorSdo
import Derived.Test.YtiikebaehoobnaaDoorSrg
import Derived.Test.YtiikebaehoobnaaDoorSkn
namespace Go.Proofs.YtiikebaehoobnaaDoor
set_option maxRecDepth 100000
open Go.RowKit Go.Maps
set_option maxRecDepth 100000
set_option linter.unusedVariables false
def vlV (l : List UInt8) : Nat := if vlO l then dv l else 0
theorem take_getD (l : List UInt8) (i : Nat) (h : i < l.length) : l.take (i + 1) = l.take i ++ [l.getD i 0] := by
  rw [List.take_add_one, List.getElem?_eq_getElem h, List.getD_eq_getElem?_getD, List.getElem?_eq_getElem h]
  rfl
theorem vlO_not {l : List UInt8} (i : Nat) (h : i < l.length) (hd : isD (l.getD i 0) = false) : vlO l = false := by
  have : l.all isD = false := by
    rw [List.all_eq_false]
    refine ⟨l.getD i 0, ?_, by rw [hd]; decide⟩
    rw [List.getD_eq_getElem?_getD, List.getElem?_eq_getElem h]
    exact List.getElem_mem _
  simp [vlO, this]
set_option maxHeartbeats 1000000 in
theorem rvalue (l : List UInt8) (w : World) : Calls Tryd.prog 38 #[.string (tx l)] w fun r w' => r = .returned (.tuple #[.int .i64 ((vlV l : Nat) : Int), .bool (vlO l)]) ∧ w' = w := by
  have hs := sidx l
  have hXs : (tx l).size = l.length := tx_size l
  obtain ⟨X, hX⟩ : ∃ x, tx l = x := ⟨_, rfl⟩
  rw [hX] at hs hXs ⊢
  obtain ⟨V, hV⟩ : ∃ x, vlV l = x := ⟨_, rfl⟩
  obtain ⟨O, hO⟩ : ∃ x, vlO l = x := ⟨_, rfl⟩
  rw [hV, hO]
  have no : vlO l = false → V = 0 ∧ O = false := fun h => by
    rw [← hV, ← hO]
    unfold vlV
    simp [h]
  have yes : vlO l = true → V = dv l ∧ O = true := fun h => by
    rw [← hV, ← hO]
    unfold vlV
    simp [h]
  have HV : Hid (_) := And.intro no yes
  have HXs : Hid (X.size = l.length) := hXs
  clear hX hV hO no yes hXs
  by_cases h0 : l.length = 0
  · have q0 : ((X.size : Nat) : Int) = 0 := by have := HXs.out; omega
    obtain ⟨rfl, rfl⟩ := HV.out.1 (by simp [vlO, h0])
    clear hs
    go_enter Tryd.func38, Tryd.ntmps38
    go_wp2_with fail
    go_ret2
    exact ⟨rfl, rfl⟩
  have q0 : ((((X.size : Nat) : Int)) == 0) = false := beq_eq_false_iff_ne.2 (by have := HXs.out; omega)
  by_cases h10 : 10 < l.length
  · have q1 : (10 : Int) < ((X.size : Nat) : Int) := by have := HXs.out; omega
    obtain ⟨rfl, rfl⟩ := HV.out.1 (by simp [vlO, show ¬ l.length ≤ 10 by omega])
    clear hs
    go_enter Tryd.func38, Tryd.ntmps38
    go_wp2_with fail
    go_ret2
    exact ⟨rfl, rfl⟩
  have q1 : ¬ (10 : Int) < ((X.size : Nat) : Int) := by have := HXs.out; omega
  have s0 : ∀ w, (Instr.index 9 (.string X) (.int .i64 0)).run Tryd.prog w = .ok (.int .u8 (((l.getD 0 0).toNat : Nat) : Int)) w := hs 0 (by omega)
  by_cases hz : hdZ l = true
  · have hz2 := hz
    unfold hdZ at hz2
    simp only [Bool.and_eq_true, decide_eq_true_eq] at hz2
    rw [hz2.1] at s0
    have q2 : (1 : Int) < ((X.size : Nat) : Int) := by have := HXs.out; omega
    obtain ⟨rfl, rfl⟩ := HV.out.1 (by simp [vlO, hz])
    clear hs
    go_enter Tryd.func38, Tryd.ntmps38
    go_wp2_with fail
    go_ret2
    exact ⟨rfl, rfl⟩
  have hl2 : (l.getD 0 0).toNat ≠ 48 ∨ ¬ (1 : Int) < ((X.size : Nat) : Int) := by
    unfold hdZ at hz
    simp only [Bool.and_eq_true, decide_eq_true_eq] at hz
    have := HXs.out
    omega
  have hz' : hdZ l = false := by simpa using hz
  have HZ : Hid (hdZ l = false) := hz'
  obtain ⟨c0, hc0⟩ : ∃ x, (l.getD 0 0).toNat = x := ⟨_, rfl⟩
  rw [hc0] at s0 hl2
  clear hz hz' hc0
  have two : (c0 = 48 ∧ ¬ (1 : Int) < ((X.size : Nat) : Int)) ∨ ¬ ((c0 : Nat) : Int) = 48 := by have := HXs.out; omega
  clear hl2
  rcases two with ⟨rfl, q2⟩ | q3
  all_goals
    go_enter Tryd.func38, Tryd.ntmps38
    go_wp2_with fail
    clear s0
    go_loopw [4, 5, 24, 25, 26, 27, 28, 29, 30, 31, 32, 33, 34, 35, 36, 37, 38, 39, 40, 41, 42, 43, 44, 45, 46, 47] (fun v c _ _ _ _ _ _ _ _ _ _ _ _ _ _ _ _ _ _ _ _ _ _ _ _ wr => ∃ i n : Nat, i ≤ l.length ∧ v = .int .i64 ((n : Nat) : Int) ∧ c = .int .i64 ((i : Nat) : Int) ∧ Hid (n = dv (l.take i) ∧ (l.take i).all isD = true ∧ n < 10 ^ i) ∧ wr = w) (fun _ c _ _ _ _ _ _ _ _ _ _ _ _ _ _ _ _ _ _ _ _ _ _ _ _ _ => l.length - natV c)
    case atStart => exact ⟨0, 0, by omega, rfl, rfl, ⟨rfl, rfl, by decide⟩, rfl⟩
    case round =>
      obtain ⟨i, n, hi, rfl, rfl, HI, hwr⟩ := hrel
      rw [hwr]
      clear hwr
      by_cases hlt : i < l.length
      · have hlt' : ((i : Nat) : Int) < ((X.size : Nat) : Int) := by have := HXs.out; omega
        have s1 := hs i hlt
        clear hs
        have hw1 : IntKind.i64.wrap (((i : Nat) : Int) + 1) = ((i + 1 : Nat) : Int) := by rw [IntKind.wrap_i64]; omega
        have hD : isD (l.getD i 0) = (decide (48 ≤ (l.getD i 0).toNat) && decide ((l.getD i 0).toNat ≤ 57)) := rfl
        obtain ⟨cc, hcc⟩ : ∃ x, (l.getD i 0).toNat = x := ⟨_, rfl⟩
        have h256 : cc < 256 := by rw [← hcc]; exact UInt8.toNat_lt _
        rw [hcc] at s1 hD
        have HD : Hid (_) := And.intro hD hcc
        clear hcc hD
        by_cases hA : cc < 48
        · have qA : ((cc : Nat) : Int) < 48 := by omega
          obtain ⟨rfl, rfl⟩ := HV.out.1 (vlO_not i hlt (by rw [HD.out.1]; simp; omega))
          go_wp2_with fail
          go_ret2
          exact ⟨rfl, rfl⟩
        have qA : ¬ ((cc : Nat) : Int) < 48 := by omega
        by_cases hB : 57 < cc
        · have qB : (57 : Int) < ((cc : Nat) : Int) := by omega
          obtain ⟨rfl, rfl⟩ := HV.out.1 (vlO_not i hlt (by rw [HD.out.1]; simp; omega))
          go_wp2_with fail
          go_ret2
          exact ⟨rfl, rfl⟩
        have qB : ¬ (57 : Int) < ((cc : Nat) : Int) := by omega
        have hp : n < 10000000000 := by
          have := Nat.pow_le_pow_right (n := 10) (by decide) (show i ≤ 10 by omega)
          have := HI.out.2.2
          omega
        have e1 : IntKind.i64.wrap (10 * ((n : Nat) : Int)) = ((10 * n : Nat) : Int) := by rw [IntKind.wrap_i64]; omega
        have e2 : IntKind.i64.wrap ((cc : Nat) : Int) = ((cc : Nat) : Int) := by rw [IntKind.wrap_i64]; omega
        have e3 : IntKind.i64.wrap (((10 * n : Nat) : Int) + ((cc : Nat) : Int)) = ((10 * n + cc : Nat) : Int) := by rw [IntKind.wrap_i64]; omega
        have e4 : IntKind.i64.wrap (((10 * n + cc : Nat) : Int) - 48) = ((10 * n + (cc - 48) : Nat) : Int) := by rw [IntKind.wrap_i64]; omega
        obtain ⟨m1, hm1⟩ : ∃ x, 10 * n = x := ⟨_, rfl⟩
        obtain ⟨m2, hm2⟩ : ∃ x, m1 + cc = x := ⟨_, rfl⟩
        obtain ⟨m3, hm3⟩ : ∃ x, m1 + (cc - 48) = x := ⟨_, rfl⟩
        rw [hm1] at e1 e3 e4
        rw [hm2] at e3 e4
        rw [hm3] at e4
        obtain ⟨i1, hi1⟩ : ∃ x, i + 1 = x := ⟨_, rfl⟩
        rw [hi1] at hw1
        have HM : Hid (_) := And.intro hm1 (And.intro hm2 (And.intro hm3 hi1))
        clear hm1 hm2 hm3 hi1 hp
        go_wp2_with fail
        go_roundw
        case rel =>
          refine ⟨i1, m3, by have := HM.out.2.2.2; omega, rfl, rfl, ?_, by first | rfl | trivial⟩
          obtain ⟨r1, r2, r3, r4⟩ := HM.out
          obtain ⟨k1, k2, k3⟩ := HI.out
          show m3 = dv (l.take i1) ∧ (l.take i1).all isD = true ∧ m3 < 10 ^ i1
          rw [← r4, take_getD l i hlt]
          refine ⟨?_, ?_, ?_⟩
          · have := dvF_snoc (l.take i) (l.getD i 0) 0
            show m3 = dvF 0 (l.take i ++ [l.getD i 0])
            rw [this, HD.out.2]
            have : dvF 0 (l.take i) = n := k1.symm
            omega
          · rw [List.all_append, k2]
            have : isD (l.getD i 0) = true := by rw [HD.out.1]; simp; omega
            show (true && ([l.getD i 0].all isD)) = true
            rw [List.all_cons, this]
            rfl
          · rw [Nat.pow_succ]
            omega
        case measure => simp [natV] <;> (have := HM.out.2.2.2; omega)
      · obtain rfl : i = l.length := by omega
        have hlt' : ¬ ((l.length : Nat) : Int) < ((X.size : Nat) : Int) := by have := HXs.out; omega
        have hI := HI.out
        rw [List.take_length] at hI
        have HJ : Hid (_) := hI
        clear hI HI
        by_cases hM : 4294967295 < n
        · have qM : (4294967295 : Int) < ((n : Nat) : Int) := by omega
          obtain ⟨rfl, rfl⟩ := HV.out.1 (by
            have k : decide (dv l ≤ 4294967295) = false := by rw [← HJ.out.1]; simp; omega
            unfold vlO
            rw [k, Bool.and_false])
          go_wp2_with fail
          go_ret2
          exact ⟨rfl, rfl⟩
        · have qM : ¬ (4294967295 : Int) < ((n : Nat) : Int) := by omega
          obtain ⟨rfl, rfl⟩ := HV.out.2 (by
            have k := HJ.out
            unfold vlO
            rw [HZ.out, k.2.1, ← k.1]
            simp
            omega)
          go_wp2_with fail
          go_ret2
          exact ⟨by rw [HJ.out.1]; rfl, rfl⟩
end Go.Proofs.YtiikebaehoobnaaDoor
