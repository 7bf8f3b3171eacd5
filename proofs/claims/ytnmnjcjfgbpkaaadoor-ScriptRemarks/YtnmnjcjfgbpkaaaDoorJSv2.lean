/- Layer 20: the document's digit and bytes. -/
import Derived.Test.YtnmnjcjfgbpkaaaDoorJSv0
namespace Go.Proofs.YtnmnjcjfgbpkaaaDoor
set_option maxRecDepth 100000
open Go.RowKit Go.Maps
set_option maxRecDepth 100000
set_option linter.unusedVariables false
def dgR (c : Nat) : Int := if 48 ≤ c ∧ c ≤ 57 then (c : Int) - 48 else if 97 ≤ c ∧ c ≤ 102 then (c : Int) - 87 else -1
theorem dgR_fin : ∀ n : Fin 256, dgI (UInt8.ofNat n.val) = dgR n.val := by decide +kernel
theorem dgR_dgI (c : UInt8) : dgR c.toNat = dgI c := by
  have := dgR_fin ⟨c.toNat, UInt8.toNat_lt _⟩
  simp at this
  exact this.symm
theorem dtO_nil : dtO [] = false := by decide +kernel
theorem dtO_cons (c : UInt8) (r : List UInt8) : dtO (c :: r) = (decide (c = 120) && decide (r.length % 2 = 0) && decide (r.length ≤ 16) && (List.range (r.length / 2)).all fun j => decide (prOk r j)) := by
  by_cases h : c = 120
  · subst h
    simp [dtO, Lib.hasPrefix, Lib.trimPrefix]
  · have h' : ¬ (120 : UInt8) = c := fun q => h q.symm
    simp [dtO, Lib.hasPrefix, Lib.trimPrefix, h, h']
theorem trim_cons (r : List UInt8) : Lib.trimPrefix (120 :: r) [120] = r := by simp [Lib.trimPrefix, Lib.hasPrefix]
set_option maxHeartbeats 1000000 in
theorem rdigit (c : Nat) (hc : c < 256) (w : World) : Calls Tryd.prog 65 #[.int .u8 ((c : Nat) : Int)] w fun r w' => r = .returned (.int .i64 (dgR c)) ∧ w' = w := by
  have e0 : IntKind.i64.wrap ((c : Nat) : Int) = ((c : Nat) : Int) := by rw [IntKind.wrap_i64]; omega
  by_cases h1 : 48 ≤ c ∧ c ≤ 57
  · have q1 : ((48 : Nat) : Int) ≤ ((c : Nat) : Int) := by omega
    have q2 : ((c : Nat) : Int) ≤ 57 := by omega
    have e1 : IntKind.i64.wrap (((c : Nat) : Int) - 48) = ((c : Nat) : Int) - 48 := by rw [IntKind.wrap_i64]; omega
    have eR : dgR c = ((c : Nat) : Int) - 48 := by unfold dgR; rw [if_pos h1]
    rw [eR]
    go_enter Tryd.func65, Tryd.ntmps65
    go_wp2_with fail
    go_ret
    exact ⟨rfl, rfl⟩
  by_cases h2 : 97 ≤ c ∧ c ≤ 102
  · have q1 : (48 : Int) ≤ ((c : Nat) : Int) := by omega
    have q2 : ¬ ((c : Nat) : Int) ≤ 57 := by omega
    have q3 : (97 : Int) ≤ ((c : Nat) : Int) := by omega
    have q4 : ((c : Nat) : Int) ≤ 102 := by omega
    have e1 : IntKind.i64.wrap (((c : Nat) : Int) - 97) = ((c : Nat) : Int) - 97 := by rw [IntKind.wrap_i64]; omega
    have e2 : IntKind.i64.wrap (((c : Nat) : Int) - 97 + 10) = ((c : Nat) : Int) - 87 := by rw [IntKind.wrap_i64]; omega
    have eR : dgR c = ((c : Nat) : Int) - 87 := by unfold dgR; rw [if_neg h1, if_pos h2]
    rw [eR]
    clear h1 h2
    go_enter Tryd.func65, Tryd.ntmps65
    go_wp2_with fail
    go_ret
    exact ⟨rfl, rfl⟩
  have eR : dgR c = -1 := by unfold dgR; rw [if_neg h1, if_neg h2]
  rw [eR]
  by_cases h3 : c < 48
  · have q1 : ¬ (48 : Int) ≤ ((c : Nat) : Int) := by omega
    have q3 : ¬ (97 : Int) ≤ ((c : Nat) : Int) := by omega
    clear h1 h2
    go_enter Tryd.func65, Tryd.ntmps65
    go_wp2_with fail
    go_ret
    exact ⟨rfl, rfl⟩
  have q1 : (48 : Int) ≤ ((c : Nat) : Int) := by omega
  have q2 : ¬ ((c : Nat) : Int) ≤ 57 := by omega
  by_cases h4 : c < 97
  · have q3 : ¬ (97 : Int) ≤ ((c : Nat) : Int) := by omega
    clear h1 h2
    go_enter Tryd.func65, Tryd.ntmps65
    go_wp2_with fail
    go_ret
    exact ⟨rfl, rfl⟩
  have q3 : (97 : Int) ≤ ((c : Nat) : Int) := by omega
  have q4 : ¬ ((c : Nat) : Int) ≤ 102 := by omega
  clear h1 h2
  go_enter Tryd.func65, Tryd.ntmps65
  go_wp2_with fail
  go_ret
  exact ⟨rfl, rfl⟩
set_option maxHeartbeats 2000000 in
theorem rbytes (l : List UInt8) (w : World) : Calls Tryd.prog 50 #[.string (tx l)] w fun r w' => ∃ v, r = .returned (.tuple #[v, .bool (dtO l)]) ∧ Hid ((dtO l = false → v = .slice none 0 0) ∧ (dtO l = true → w'.ownsRow w.heap.size 5 1 v ((Lib.trimPrefix l [120]).length / 2) (CB (pr (Lib.trimPrefix l [120])) ((Lib.trimPrefix l [120]).length / 2))) ∧ Below w.heap.size w w') := by
  cases l with
  | nil =>
    rw [dtO_nil]
    have q0 : ((((tx []).size : Nat) : Int)) = 0 := rfl
    obtain ⟨X, hX⟩ : ∃ x, tx [] = x := ⟨_, rfl⟩
    rw [hX] at q0 ⊢
    clear hX
    go_enter Tryd.func50, Tryd.ntmps50
    go_wp2_with fail
    go_ret2
    exact ⟨_, rfl, fun _ => rfl, fun h => (by cases h), Below.refl _ _⟩
  | cons c r =>
    have hs := sidx (c :: r)
    have hXs : (tx (c :: r)).size = r.length + 1 := tx_size _
    obtain ⟨X, hX⟩ : ∃ x, tx (c :: r) = x := ⟨_, rfl⟩
    rw [hX] at hs hXs ⊢
    have HXs : Hid (X.size = r.length + 1) := hXs
    clear hX hXs
    have q0 : ((((X.size : Nat) : Int)) == 0) = false := beq_eq_false_iff_ne.2 (by have := HXs.out; omega)
    have s0 : ∀ w, (Instr.index 9 (.string X) (.int .i64 0)).run Tryd.prog w = .ok (.int .u8 ((c.toNat : Nat) : Int)) w := hs 0 (by simp)
    have hd := dtO_cons c r
    by_cases hc : c = 120
    rotate_left
    · have hn : c.toNat ≠ 120 := fun h => hc (UInt8.toNat_inj.1 h)
      have hO : dtO (c :: r) = false := by rw [hd]; simp [hc]
      rw [hO]
      obtain ⟨c0, hc0⟩ : ∃ x, c.toNat = x := ⟨_, rfl⟩
      rw [hc0] at s0 hn
      have q1 : (((c0 : Nat) : Int) == 120) = false := beq_eq_false_iff_ne.2 (by omega)
      clear hs hd hO hc0
      go_enter Tryd.func50, Tryd.ntmps50
      go_wp2_with fail
      go_ret2
      exact ⟨_, rfl, fun _ => rfl, fun h => (by cases h), Below.refl _ _⟩
    subst hc
    rw [trim_cons]
    have s0' : ∀ w, (Instr.index 9 (.string X) (.int .i64 0)).run Tryd.prog w = .ok (.int .u8 120) w := s0
    clear s0
    by_cases h2 : r.length % 2 = 0
    rotate_left
    · have hO : dtO (120 :: r) = false := by rw [hd]; simp [h2]
      rw [hO]
      have t2 : Int.tmod ((X.size : Nat) : Int) 2 = 0 := by rw [Int.tmod_eq_emod_of_nonneg (by omega)]; have := HXs.out; omega
      clear hs hd hO
      go_enter Tryd.func50, Tryd.ntmps50
      go_wp2_with fail
      go_ret2
      exact ⟨_, rfl, fun _ => rfl, fun h => (by cases h), Below.refl _ _⟩
    have t2 : Int.tmod ((X.size : Nat) : Int) 2 = 1 := by rw [Int.tmod_eq_emod_of_nonneg (by omega)]; have := HXs.out; omega
    by_cases h16 : r.length ≤ 16
    rotate_left
    · have hO : dtO (120 :: r) = false := by rw [hd]; simp [h16]
      rw [hO]
      have g2 : (17 : Int) < ((X.size : Nat) : Int) := by have := HXs.out; omega
      clear hs hd hO
      go_enter Tryd.func50, Tryd.ntmps50
      go_wp2_with fail
      go_ret2
      exact ⟨_, rfl, fun _ => rfl, fun h => (by cases h), Below.refl _ _⟩
    have g2 : ¬ (17 : Int) < ((X.size : Nat) : Int) := by have := HXs.out; omega
    obtain ⟨n, hn⟩ : ∃ n, r.length = 2 * n := ⟨r.length / 2, by omega⟩
    have hn2 : r.length / 2 = n := by omega
    rw [hn2] at hd ⊢
    obtain ⟨O, hO⟩ : ∃ x, dtO (120 :: r) = x := ⟨_, rfl⟩
    rw [hO] at hd ⊢
    have HO2 : Hid (O = (List.range n).all fun j => decide (prOk r j)) := by
      show O = _
      rw [hd]
      simp [h2, h16]
    have HL : Hid (r.length = 2 * n) := hn
    clear hd hO h2 hn hn2
    go_enter Tryd.func50, Tryd.ntmps50
    go_wp2_with fail
    go_loopw [4, 5, 6, 7, 27, 28, 29, 30, 31, 32, 33, 34, 35, 36, 37, 38, 39, 40, 41, 42, 43, 44, 45, 46, 47, 48, 49, 50, 51, 52, 53, 54, 55] (fun v c _ _ _ _ _ _ _ _ _ _ _ _ _ _ _ _ _ _ _ _ _ _ _ _ _ _ _ _ _ _ _ wr => ∃ i : Nat, i ≤ n ∧ c = .int .i64 ((2 * i + 1 : Nat) : Int) ∧ Hid (wr.ownsRow w.heap.size 5 1 v i (CB (pr r) i) ∧ (∀ j, j < i → prOk r j) ∧ Below w.heap.size w wr)) (fun _ c _ _ _ _ _ _ _ _ _ _ _ _ _ _ _ _ _ _ _ _ _ _ _ _ _ _ _ _ _ _ _ _ => 2 * n + 1 - natV c)
    case atStart => exact ⟨0, by omega, rfl, ⟨rfl, .inl ⟨rfl, rfl⟩⟩, fun j hj => absurd hj (by omega), Below.refl _ _⟩
    case round =>
      obtain ⟨i, hi, rfl, HI⟩ := hrel
      by_cases hlt : i < n
      · have hlt' : ((2 * i + 1 : Nat) : Int) < ((X.size : Nat) : Int) := by have := HXs.out; have := HL.out; omega
        have s1 := hs (2 * i + 1) (by have := HL.out; simp; omega)
        have s2 := hs (2 * i + 1 + 1) (by have := HL.out; simp; omega)
        rw [List.getD_cons_succ] at s1 s2
        have hw1 : IntKind.i64.wrap (((2 * i + 1 : Nat) : Int) + 1) = ((2 * i + 1 + 1 : Nat) : Int) := by rw [IntKind.wrap_i64]; omega
        have hw2 : IntKind.i64.wrap (((2 * i + 1 : Nat) : Int) + 2) = ((2 * (i + 1) + 1 : Nat) : Int) := by rw [IntKind.wrap_i64]; omega
        have r1 := dgI_le (r.getD (2 * i) 0)
        have r2 := dgI_le (r.getD (2 * i + 1) 0)
        have ep : pr r i = (dgI (r.getD (2 * i) 0) * 16 + dgI (r.getD (2 * i + 1) 0)).toNat := rfl
        have eo : prOk r i ↔ 0 ≤ dgI (r.getD (2 * i) 0) ∧ 0 ≤ dgI (r.getD (2 * i + 1) 0) := Iff.rfl
        have Ig : ∀ (c : UInt8) (wx : World), Calls Tryd.prog 65 #[.int .u8 ((c.toNat : Nat) : Int)] wx fun r w' => r = .returned (.int .i64 (dgI c)) ∧ w' = wx := fun c wx => by
          have := rdigit c.toNat (UInt8.toNat_lt _) wx
          rw [dgR_dgI] at this
          exact this
        obtain ⟨ca, hca⟩ : ∃ x, r.getD (2 * i) 0 = x := ⟨_, rfl⟩
        obtain ⟨cb, hcb⟩ : ∃ x, r.getD (2 * i + 1) 0 = x := ⟨_, rfl⟩
        rw [hca] at s1 r1
        rw [hcb] at s2 r2
        rw [hca, hcb] at ep eo
        obtain ⟨J2, hJ2⟩ : ∃ x, 2 * (i + 1) + 1 = x := ⟨_, rfl⟩
        rw [hJ2] at hw2
        obtain ⟨J, hJ⟩ : ∃ x, 2 * i + 1 = x := ⟨_, rfl⟩
        rw [hJ] at s1 s2 hw1 hw2 hlt' ⊢
        obtain ⟨J1, hJ1⟩ : ∃ x, J + 1 = x := ⟨_, rfl⟩
        rw [hJ1] at s2 hw1
        have HH : Hid (_) := And.intro ep (And.intro eo (And.intro hJ2 hJ))
        clear hca hcb ep eo hs hJ hJ1 hJ2 s0'
        have no : ¬ prOk r i → Hid (O = false) := fun h => by
          show O = false
          rw [HO2.out]
          simp only [List.all_eq_false]
          exact ⟨i, List.mem_range.2 hlt, by simpa using h⟩
        go_upto_region 7 with fail
        go_cut [6, 7] (fun p q wx => p = .int .i64 (dgI ca) ∧ q = .int .i64 (dgI cb) ∧ Hid (Below wr.heap.size wr wx))
        case first =>
          go_region_with (go_at_call 65; refine (Ig _ _).mono ?_; rintro e w' ⟨rfl, hw⟩; have hw := hw.symm; subst hw)
          all_goals ((try go_wp2_with fail); go_meet; exact ⟨rfl, rfl, (Below.refl _ _).drew⟩)
        case rest =>
          obtain ⟨rfl, rfl, H1⟩ := hcut
          obtain ⟨wb, rfl⟩ : ∃ x, x = wc := ⟨_, rfl⟩
          have HB : Hid (wb.ownsRow w.heap.size 5 1 u4 i (CB (pr r) i) ∧ Below w.heap.size w wb) := ⟨ownB HI.out.1 H1.out, HI.out.2.2.trans (H1.out.mono HI.out.2.2.size)⟩
          obtain ⟨A, hA⟩ : ∃ x, dgI ca = x := ⟨_, rfl⟩
          obtain ⟨B, hB⟩ : ∃ x, dgI cb = x := ⟨_, rfl⟩
          rw [hA] at r1 HH ⊢
          rw [hB] at r2 HH ⊢
          clear hA hB Ig s1 s2
          by_cases hA : A < 0
          · have HF := no (fun h => by have := (HH.out.2.1.1 h).1; omega)
            clear no
            go_wp2_with fail
            go_ret2
            exact ⟨_, by rw [HF.out]; rfl, fun _ => rfl, fun h => (by rw [HF.out] at h; cases h), HB.out.2⟩
          by_cases hB : B < 0
          · have HF := no (fun h => by have := (HH.out.2.1.1 h).2; omega)
            clear no
            go_wp2_with fail
            go_ret2
            exact ⟨_, by rw [HF.out]; rfl, fun _ => rfl, fun h => (by rw [HF.out] at h; cases h), HB.out.2⟩
          clear no
          obtain ⟨x, rfl⟩ : ∃ x : Nat, A = ((x : Nat) : Int) := ⟨A.toNat, by omega⟩
          obtain ⟨y, rfl⟩ : ∃ y : Nat, B = ((y : Nat) : Int) := ⟨B.toNat, by omega⟩
          have hx : x < 16 := by omega
          have hy : y < 16 := by omega
          have es : IntKind.i64.wrap (16 * ((x : Nat) : Int)) = ((16 * x : Nat) : Int) := by rw [IntKind.wrap_i64]; omega
          have ea : IntKind.i64.wrap (((16 * x : Nat) : Int) + ((y : Nat) : Int)) = ((16 * x + y : Nat) : Int) := by rw [IntKind.wrap_i64]; omega
          have eu : IntKind.u8.wrap ((16 * x + y : Nat) : Int) = ((16 * x + y : Nat) : Int) := by rw [IntKind.wrap_u8]; omega
          obtain ⟨Z, hZ⟩ : ∃ z, 16 * x + y = z := ⟨_, rfl⟩
          rw [hZ] at ea eu
          obtain ⟨Y, hY⟩ : ∃ z, 16 * x = z := ⟨_, rfl⟩
          rw [hY] at ea es
          have O3 := ownB HB.out.1 (belA (Below.refl _ wb) (.cells #[.int .u8 ((Z : Nat) : Int)] 5))
          have B3 : w.heap.size ≤ (wb.alloc (.cells #[.int .u8 ((Z : Nat) : Int)] 5)).heap.size := Nat.le_trans HB.out.2.size (belA (Below.refl _ wb) (.cells #[.int .u8 ((Z : Nat) : Int)] 5)).size
          have N3 := one_u8 wb Z
          have M3 : ∀ u ∈ ([.int .u8 ((Z : Nat) : Int)] : List Value), u.oneCell' = true := fun u hu => by rw [List.mem_singleton.1 hu]; rfl
          obtain ⟨i0, hIn, hz0, hz1, hz2⟩ := info_parts info_u8
          have eZ : pr r i = Z := by have := HH.out.1; omega
          have HK : Hid (Below w.heap.size w (wb.alloc (.cells #[.int .u8 ((Z : Nat) : Int)] 5)) ∧ pr r i = Z) := ⟨belA HB.out.2 _, eZ⟩
          have hi8 : i ≤ 8 := by have := HL.out; omega
          clear hZ eZ hY
          go_wp2_with (at_builtin; refine wpList_append_own_at _ rfl _ _ 43 rfl w.heap.size 5 i0 (.int .u8 0) 1 1 Tryd.underlying43 hIn hz0 hz1 hz2 rfl (by decide) u4 i (CB (pr r) i) rfl O3 ⟨wb.heap.size, 0, none⟩ 1 1 [.int .u8 ((Z : Nat) : Int)] rfl rfl N3 M3 (by unfold maxLen; omega) (by omega) B3 ?_)
          intro v7 w7 O7 G7 _ _
          have HF : Hid (w7.ownsRow w.heap.size 5 1 v7 (i + 1) (CB (pr r) (i + 1)) ∧ (∀ j, j < i + 1 → prOk r j) ∧ Below w.heap.size w w7) := by
            refine ⟨?_, fun j hj => ?_, HK.out.1.grown G7 HK.out.1.size (fun k hk => (O3.lt k hk).1)⟩
            · have e : CB (pr r) (i + 1) = CB (pr r) i ++ [.int .u8 ((Z : Nat) : Int)] := by
                unfold CB
                rw [List.range_succ, List.map_append]
                simp [HK.out.2]
              rw [e]
              exact O7
            · by_cases hji : j < i
              · exact HI.out.2.1 j hji
              · obtain rfl : j = i := by omega
                exact HH.out.2.1.2 ⟨by omega, by omega⟩
          obtain ⟨x7, y7, rfl, _⟩ := own_slcS O7
          clear O7 G7 O3 B3 N3 M3 HI HB hIn hz0 hz1 hz2
          go_wp2_with fail
          go_roundw
          case rel => exact ⟨i + 1, by omega, by rw [← HH.out.2.2.1], HF⟩
          case measure =>
            have := HH.out.2.2
            simp [natV]
            omega
      · obtain rfl : i = n := by omega
        have hlt' : ¬ ((2 * i + 1 : Nat) : Int) < ((X.size : Nat) : Int) := by have := HXs.out; have := HL.out; omega
        have HT : Hid (O = true) := by
          show O = true
          rw [HO2.out]
          simp only [List.all_eq_true]
          intro j hj
          simpa using HI.out.2.1 j (List.mem_range.1 hj)
        clear hs s0'
        go_wp2_with fail
        go_ret2
        exact ⟨_, by rw [HT.out]; rfl, fun h => (by rw [HT.out] at h; cases h), fun _ => HI.out.1, HI.out.2.2⟩
end Go.Proofs.YtnmnjcjfgbpkaaaDoor
