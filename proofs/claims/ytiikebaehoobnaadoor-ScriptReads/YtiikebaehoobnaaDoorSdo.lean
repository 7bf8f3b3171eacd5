/- Layer 20: dataOf of any word. -/
import Derived.Test.YtiikebaehoobnaaDoorSrg
namespace Go.Proofs.YtiikebaehoobnaaDoor
set_option maxRecDepth 100000
open Go.RowKit Go.Maps
set_option maxRecDepth 100000
def hexD : List UInt8 := [48, 49, 50, 51, 52, 53, 54, 55, 56, 57, 97, 98, 99, 100, 101, 102]
/-- A digit's value; -1. -/
def dgI (c : UInt8) : Int := Lib.indexByte hexD c
theorem dgI_fin : ∀ n : Fin 256, -1 ≤ dgI (UInt8.ofNat n.val) ∧ dgI (UInt8.ofNat n.val) ≤ 15 := by decide +kernel
theorem dgI_le (c : UInt8) : -1 ≤ dgI c ∧ dgI c ≤ 15 := by
  have h := dgI_fin ⟨c.toNat, c.toNat_lt⟩
  simpa using h
/-- The j-th pair of a list of digits. -/
def pr (l : List UInt8) (j : Nat) : Nat := (dgI (l.getD (2 * j) 0) * 16 + dgI (l.getD (2 * j + 1) 0)).toNat
def prOk (l : List UInt8) (j : Nat) : Prop := 0 ≤ dgI (l.getD (2 * j) 0) ∧ 0 ≤ dgI (l.getD (2 * j + 1) 0)
instance (l : List UInt8) (j : Nat) : Decidable (prOk l j) := inferInstanceAs (Decidable (_ ∧ _))
theorem pr_lt {l : List UInt8} {j : Nat} : pr l j < 256 := by
  unfold pr
  have h1 := dgI_le (l.getD (2 * j) 0)
  have h2 := dgI_le (l.getD (2 * j + 1) 0)
  omega
/-- Is it data, and which bytes. -/
def dtO (l : List UInt8) : Bool := Lib.hasPrefix l [120] && decide ((Lib.trimPrefix l [120]).length % 2 = 0) && decide ((Lib.trimPrefix l [120]).length ≤ 16) && (List.range ((Lib.trimPrefix l [120]).length / 2)).all fun j => decide (prOk (Lib.trimPrefix l [120]) j)
theorem sidx (l : List UInt8) (i : Nat) (h : i < l.length) : ∀ w, (Instr.index 9 (.string (tx l)) (.int .i64 ((i : Nat) : Int))).run Tryd.prog w = .ok (.int .u8 (((l.getD i 0).toNat : Nat) : Int)) w := fun w => by
  have h1 : ((i : Nat) : Int) < (((tx l).size : Nat) : Int) := by rw [tx_size]; omega
  have h2 : (0 : Int) ≤ ((i : Nat) : Int) := by omega
  go_simp
  rfl
theorem or4_fin : ∀ a : Fin 16, ∀ b : Fin 16, bits .or .i64 (((a.val : Nat) : Int) * 16) ((b.val : Nat) : Int) = ((a.val * 16 + b.val : Nat) : Int) := by decide +kernel
theorem one_u8 (w : World) (x : Nat) : ∀ j u, ([.int .u8 ((x : Nat) : Int)] : List Value)[j]? = some u → (w.alloc (.cells #[.int .u8 ((x : Nat) : Int)] 5)).cell? ((⟨w.heap.size, 0, none⟩ : Addr).add j) = some u := fun j u hu => by
  have e : (Addr.add ⟨w.heap.size, 0, none⟩ j) = ⟨w.heap.size, j, none⟩ := by unfold Addr.add; simp; omega
  rw [e, cell_of_row _ w.heap.size j _ _ _ (heap_alloc_new w (.cells #[.int .u8 ((x : Nat) : Int)] 5))]
  simpa using hu
set_option maxHeartbeats 2000000 in
/-- The digits, pair by pair. -/
theorem pdataOf (l : List UInt8) (w : World) : Calls Tryd.prog 77 #[.string (tx l)] w fun r w' => ∃ v, r = .returned (.tuple #[v, .bool (dtO l)]) ∧ Hid ((dtO l = false → v = .slice none 0 0) ∧ (dtO l = true → w'.ownsRow w.heap.size 5 1 v ((Lib.trimPrefix l [120]).length / 2) (CB (pr (Lib.trimPrefix l [120])) ((Lib.trimPrefix l [120]).length / 2))) ∧ Below w.heap.size w w') := by
  have hC := Tryd.strings_CutPrefix (tx l) (ByteArray.mk #[120]) w
  rw [show (tx l).data.toList = l by simp [tx], show (ByteArray.mk #[120]).data.toList = [120] from rfl] at hC
  obtain ⟨O, hO⟩ : ∃ x, dtO l = x := ⟨_, rfl⟩
  rw [hO]
  unfold dtO at hO
  obtain ⟨P, hP⟩ : ∃ x, Lib.trimPrefix l [120] = x := ⟨_, rfl⟩
  obtain ⟨M, hM⟩ : ∃ x, Lib.hasPrefix l [120] = x := ⟨_, rfl⟩
  rw [hP, hM] at hC hO
  rw [hP]
  have hs := sidx P
  have hPs : (tx P).size = P.length := tx_size P
  obtain ⟨Y, hY⟩ : ∃ x, tx l = x := ⟨_, rfl⟩
  obtain ⟨X, hX⟩ : ∃ x, tx P = x := ⟨_, rfl⟩
  have hC' : Calls Tryd.prog 88 #[.string Y, .string (ByteArray.mk #[120])] w fun e w' => e = .returned (.tuple #[.string X, .bool M]) ∧ w' = w := by
    rw [← hY, ← hX]
    exact hC
  rw [hY]
  rw [hX] at hs hPs
  have HO : Hid (_) := hO
  clear hC hY hX hP hM hO
  by_cases hg : M = true ∧ P.length % 2 = 0 ∧ P.length ≤ 16
  · obtain ⟨rfl, h2, h16⟩ := hg
    obtain ⟨n, hn⟩ : ∃ n, P.length = 2 * n := ⟨P.length / 2, by omega⟩
    have hn2 : P.length / 2 = n := by omega
    rw [hn2]
    have HO2 : Hid (O = (List.range n).all fun j => decide (prOk P j)) := by
      show O = _
      rw [← HO.out, hn2]
      simp [h2, h16]
    rw [hn] at hPs
    have t2 : Int.tmod ((X.size : Nat) : Int) 2 = 0 := by rw [hPs, Int.tmod_eq_emod_of_nonneg (by omega)]; omega
    have g2 : ¬ (16 : Int) < ((X.size : Nat) : Int) := by rw [hPs]; omega
    have hI := Tryd.strings_IndexByte (ByteArray.mk #[48, 49, 50, 51, 52, 53, 54, 55, 56, 57, 97, 98, 99, 100, 101, 102])
    rw [show (ByteArray.mk #[48, 49, 50, 51, 52, 53, 54, 55, 56, 57, 97, 98, 99, 100, 101, 102]).data.toList = hexD from rfl] at hI
    have hIc : ∀ (c : UInt8) (wx : World), Calls Tryd.prog 89 #[.string (ByteArray.mk #[48, 49, 50, 51, 52, 53, 54, 55, 56, 57, 97, 98, 99, 100, 101, 102]), .int .u8 ((c.toNat : Nat) : Int)] wx fun e w' => e = .returned (.int .i64 (dgI c)) ∧ w' = wx := fun c wx => by
      have h := hI ((c.toNat : Nat) : Int) wx
      have e : (((c.toNat : Nat) : Int)).toNat.toUInt8 = c := by simp
      rw [e] at h
      exact h
    clear hI HO h2
    go_enter Tryd.func77, Tryd.ntmps77
    go_wp2_with fail
    refine hC'.mono ?_
    rintro r w' ⟨rfl, hw⟩
    rw [hw]
    clear hw hC' w'
    go_wp2_with fail
    go_loopw [6, 7, 8, 9, 28, 29, 30, 31, 32, 33, 34, 35, 36, 37, 38, 39, 40, 41, 42, 43, 44, 45, 46, 47, 48, 49, 50, 51, 52, 53, 54, 55, 56] (fun v c _ _ _ _ _ _ _ _ _ _ _ _ _ _ _ _ _ _ _ _ _ _ _ _ _ _ _ _ _ _ _ wr => ∃ i : Nat, i ≤ n ∧ c = .int .i64 ((2 * i : Nat) : Int) ∧ Hid (wr.ownsRow w.heap.size 5 1 v i (CB (pr P) i) ∧ (∀ j, j < i → prOk P j) ∧ Below w.heap.size w wr)) (fun _ c _ _ _ _ _ _ _ _ _ _ _ _ _ _ _ _ _ _ _ _ _ _ _ _ _ _ _ _ _ _ _ _ => 2 * n - natV c)
    case atStart => exact ⟨0, by omega, rfl, ⟨rfl, .inl ⟨rfl, rfl⟩⟩, fun j hj => absurd hj (by omega), Below.refl _ _⟩
    case round =>
      obtain ⟨i, hi, rfl, HI⟩ := hrel
      by_cases hlt : i < n
      · have hlt' : ((2 * i : Nat) : Int) < ((X.size : Nat) : Int) := by rw [hPs]; omega
        have s1 := hs (2 * i) (by omega)
        have s2 := hs (2 * i + 1) (by omega)
        have hw1 : IntKind.i64.wrap (((2 * i : Nat) : Int) + 1) = ((2 * i + 1 : Nat) : Int) := by rw [IntKind.wrap_i64]; omega
        have hw2 : IntKind.i64.wrap (((2 * i : Nat) : Int) + 2) = ((2 * i + 2 : Nat) : Int) := by rw [IntKind.wrap_i64]; omega
        have r1 := dgI_le (P.getD (2 * i) 0)
        have r2 := dgI_le (P.getD (2 * i + 1) 0)
        have ep : pr P i = (dgI (P.getD (2 * i) 0) * 16 + dgI (P.getD (2 * i + 1) 0)).toNat := rfl
        have eo : prOk P i ↔ 0 ≤ dgI (P.getD (2 * i) 0) ∧ 0 ≤ dgI (P.getD (2 * i + 1) 0) := Iff.rfl
        have I1 := hIc (P.getD (2 * i) 0)
        have I2 := hIc (P.getD (2 * i + 1) 0)
        obtain ⟨ca, hca⟩ : ∃ x, (P.getD (2 * i) 0).toNat = x := ⟨_, rfl⟩
        obtain ⟨cb, hcb⟩ : ∃ x, (P.getD (2 * i + 1) 0).toNat = x := ⟨_, rfl⟩
        obtain ⟨A, hA⟩ : ∃ x, dgI (P.getD (2 * i) 0) = x := ⟨_, rfl⟩
        obtain ⟨B, hB⟩ : ∃ x, dgI (P.getD (2 * i + 1) 0) = x := ⟨_, rfl⟩
        rw [hca] at s1 I1
        rw [hcb] at s2 I2
        rw [hA] at I1 r1
        rw [hB] at I2 r2
        rw [hA, hB] at ep eo
        obtain ⟨J, hJ⟩ : ∃ x, 2 * i = x := ⟨_, rfl⟩
        rw [hJ] at s1 s2 hw1 hw2 hlt' ⊢
        obtain ⟨J1, hJ1⟩ : ∃ x, J + 1 = x := ⟨_, rfl⟩
        obtain ⟨J2, hJ2⟩ : ∃ x, J + 2 = x := ⟨_, rfl⟩
        rw [hJ1] at s2 hw1
        rw [hJ2] at hw2
        have e2 : J2 = 2 * (i + 1) := by omega
        have HH : Hid (_) := And.intro ep (And.intro eo (And.intro e2 hJ))
        clear hca hcb hA hB ep eo hs hIc hJ hJ1 hJ2 e2
        have no : ¬ prOk P i → Hid (O = false) := fun h => by
          show O = false
          rw [HO2.out]
          simp only [List.all_eq_false]
          exact ⟨i, List.mem_range.2 hlt, by simpa using h⟩
        by_cases hA : A < 0
        · have HF := no (fun h => by have := (HH.out.2.1.1 h).1; omega)
          clear no
          go_wp2_with fail
          refine (I1 _).mono ?_
          rintro r w' ⟨rfl, hw⟩
          rw [hw]
          clear hw w'
          go_wp2_with fail
          refine (I2 _).mono ?_
          rintro r w' ⟨rfl, hw⟩
          rw [hw]
          clear hw w'
          go_wp2_with fail
          go_ret2
          exact ⟨_, by rw [HF.out]; rfl, fun _ => rfl, fun h => (by rw [HF.out] at h; cases h), HI.out.2.2⟩
        by_cases hB : B < 0
        · have HF := no (fun h => by have := (HH.out.2.1.1 h).2; omega)
          clear no
          go_wp2_with fail
          refine (I1 _).mono ?_
          rintro r w' ⟨rfl, hw⟩
          rw [hw]
          clear hw w'
          go_wp2_with fail
          refine (I2 _).mono ?_
          rintro r w' ⟨rfl, hw⟩
          rw [hw]
          clear hw w'
          go_wp2_with fail
          go_ret2
          exact ⟨_, by rw [HF.out]; rfl, fun _ => rfl, fun h => (by rw [HF.out] at h; cases h), HI.out.2.2⟩
        clear no
        obtain ⟨x, rfl⟩ : ∃ x : Nat, A = ((x : Nat) : Int) := ⟨A.toNat, by omega⟩
        obtain ⟨y, rfl⟩ : ∃ y : Nat, B = ((y : Nat) : Int) := ⟨B.toNat, by omega⟩
        have hx : x < 16 := by omega
        have hy : y < 16 := by omega
        have eor := or4_fin ⟨x, hx⟩ ⟨y, hy⟩
        simp only at eor
        have es : IntKind.i64.wrap (((x : Nat) : Int) * 16) = ((x : Nat) : Int) * 16 := by rw [IntKind.wrap_i64]; omega
        have eu : IntKind.u8.wrap ((x * 16 + y : Nat) : Int) = ((x * 16 + y : Nat) : Int) := by rw [IntKind.wrap_u8]; omega
        obtain ⟨Z, hZ⟩ : ∃ z, x * 16 + y = z := ⟨_, rfl⟩
        rw [hZ] at eor eu
        have O3 := ownB HI.out.1 (belA (Below.refl _ wr) (.cells #[.int .u8 ((Z : Nat) : Int)] 5))
        have B3 : w.heap.size ≤ (wr.alloc (.cells #[.int .u8 ((Z : Nat) : Int)] 5)).heap.size := Nat.le_trans HI.out.2.2.size (belA (Below.refl _ wr) (.cells #[.int .u8 ((Z : Nat) : Int)] 5)).size
        have N3 := one_u8 wr Z
        have M3 : ∀ u ∈ ([.int .u8 ((Z : Nat) : Int)] : List Value), u.oneCell' = true := fun u hu => by rw [List.mem_singleton.1 hu]; rfl
        obtain ⟨i0, hIn, hz0, hz1, hz2⟩ := info_parts info_u8
        have eZ : pr P i = Z := by have := HH.out.1; omega
        have HK : Hid (Below w.heap.size w (wr.alloc (.cells #[.int .u8 ((Z : Nat) : Int)] 5)) ∧ pr P i = Z) := ⟨belA HI.out.2.2 _, eZ⟩
        have hi8 : i ≤ 8 := by omega
        clear hZ eZ
        go_wp2_with fail
        refine (I1 _).mono ?_
        rintro r w' ⟨rfl, hw⟩
        rw [hw]
        clear hw w'
        go_wp2_with fail
        refine (I2 _).mono ?_
        rintro r w' ⟨rfl, hw⟩
        rw [hw]
        clear hw w' I1 I2
        go_wp2_with (at_builtin; refine wpList_append_own_at _ rfl _ _ 32 rfl w.heap.size 5 i0 (.int .u8 0) 1 1 Tryd.underlying32 hIn hz0 hz1 hz2 rfl (by decide) u6 i (CB (pr P) i) rfl O3 ⟨wr.heap.size, 0, none⟩ 1 1 [.int .u8 ((Z : Nat) : Int)] rfl rfl N3 M3 (by unfold maxLen; omega) (by omega) B3 ?_)
        intro v7 w7 O7 G7 _ _
        have HF : Hid (w7.ownsRow w.heap.size 5 1 v7 (i + 1) (CB (pr P) (i + 1)) ∧ (∀ j, j < i + 1 → prOk P j) ∧ Below w.heap.size w w7) := by
          refine ⟨?_, fun j hj => ?_, HK.out.1.grown G7 HK.out.1.size (fun k hk => (O3.lt k hk).1)⟩
          · have e : CB (pr P) (i + 1) = CB (pr P) i ++ [.int .u8 ((Z : Nat) : Int)] := by
              unfold CB
              rw [List.range_succ, List.map_append]
              simp [HK.out.2]
            rw [e]
            exact O7
          · by_cases hji : j < i
            · exact HI.out.2.1 j hji
            · obtain rfl : j = i := by omega
              exact HH.out.2.1.2 ⟨by omega, by omega⟩
        obtain ⟨x7, y7, rfl, _⟩ := own_slcS O7
        clear O7 G7 O3 B3 N3 M3 HI hIn hz0 hz1 hz2
        go_wp2_with fail
        go_roundw
        case rel => exact ⟨i + 1, by omega, by rw [← HH.out.2.2.1], HF⟩
        case measure =>
          have := HH.out.2.2
          simp [natV]
          omega
      · obtain rfl : i = n := by omega
        have hlt' : ¬ ((2 * i : Nat) : Int) < ((X.size : Nat) : Int) := by rw [hPs]; omega
        have HT : Hid (O = true) := by
          show O = true
          rw [HO2.out]
          simp only [List.all_eq_true]
          intro j hj
          simpa using HI.out.2.1 j (List.mem_range.1 hj)
        go_wp2_with fail
        go_ret2
        exact ⟨_, by rw [HT.out]; rfl, fun h => (by rw [HT.out] at h; cases h), fun _ => HI.out.1, HI.out.2.2⟩
  · have HF : Hid (O = false) := by
      show O = false
      rw [← HO.out]
      cases M with
      | false => simp
      | true =>
        have : ¬ (P.length % 2 = 0 ∧ P.length ≤ 16) := fun h => hg ⟨rfl, h⟩
        by_cases h2 : P.length % 2 = 0
        · have : ¬ P.length ≤ 16 := fun h => this ⟨h2, h⟩
          simp [this]
        · simp [h2]
    rw [HF.out]
    clear HF HO
    cases M with
    | false =>
      clear hg hs
      go_enter Tryd.func77, Tryd.ntmps77
      go_wp2_with fail
      refine hC'.mono ?_
      rintro r w' ⟨rfl, hw⟩
      rw [hw]
      clear hw hC'
      go_wp2_with fail
      go_ret2
      exact ⟨_, rfl, fun _ => rfl, fun h => (by cases h), Below.refl _ _⟩
    | true =>
      by_cases h2 : P.length % 2 = 0
      · have h16 : ¬ P.length ≤ 16 := fun h => hg ⟨rfl, h2, h⟩
        have t2 : Int.tmod ((X.size : Nat) : Int) 2 = 0 := by rw [hPs, Int.tmod_eq_emod_of_nonneg (by omega)]; omega
        have g2 : (16 : Int) < ((X.size : Nat) : Int) := by rw [hPs]; omega
        clear hg hs hPs h2 h16
        go_enter Tryd.func77, Tryd.ntmps77
        go_wp2_with fail
        refine hC'.mono ?_
        rintro r w' ⟨rfl, hw⟩
        rw [hw]
        clear hw hC'
        go_wp2_with fail
        go_ret2
        exact ⟨_, rfl, fun _ => rfl, fun h => (by cases h), Below.refl _ _⟩
      · have t2 : Int.tmod ((X.size : Nat) : Int) 2 = 1 := by rw [hPs, Int.tmod_eq_emod_of_nonneg (by omega)]; omega
        clear hg hs hPs h2
        go_enter Tryd.func77, Tryd.ntmps77
        go_wp2_with fail
        refine hC'.mono ?_
        rintro r w' ⟨rfl, hw⟩
        rw [hw]
        clear hw hC'
        go_wp2_with fail
        go_ret2
        exact ⟨_, rfl, fun _ => rfl, fun h => (by cases h), Below.refl _ _⟩
end Go.Proofs.YtiikebaehoobnaaDoor
