/- Part 8 of the texts on which the proofs of layer 13 rest: contracts of Go functions. -/
import Derived.Laws.BytesString
import Derived.Deep.RegionWith
import Derived.Deep.DeepCutAuto
import Derived.Deep.RegionHeld3
import Derived.Maps.OwnSet
import Derived.Maps.OwnOps
import Derived.Test.YtmleiemlfogffaaGreatPkA02
import Derived.Test.YtmleiemlfogffaaGreatPkA03
import Derived.Test.YtmleiemlfogffaaGreatPkA04
import Derived.Test.YtmleiemlfogffaaGreatPkA05
import Derived.Test.YtmleiemlfogffaaGreatPkA06
namespace Go.Proofs.YtmleiemlfogffaaGreat
set_option maxRecDepth 100000
open Go.RowKit
theorem by0 (a b c d : Nat) (hb : b < 256) (hc : c < 256) (hd : d < 256) : (a * 16777216 + b * 65536 + c * 256 + d) / 16777216 = a := by omega
theorem by1 (a b c d : Nat) (hc : c < 256) (hd : d < 256) : (a * 16777216 + b * 65536 + c * 256 + d) / 65536 = a * 256 + b := by omega
theorem by2 (a b c d : Nat) (hd : d < 256) : (a * 16777216 + b * 65536 + c * 256 + d) / 256 = a * 65536 + b * 256 + c := by omega
theorem w4_iff (bs : Nat → Nat) (n k : Nat) (hk : k < 4294967296) (h0 : bs n < 256) (h1 : bs (n + 1) < 256) (h2 : bs (n + 2) < 256) (h3 : bs (n + 3) < 256) :
    (∀ i, i < 4 → bs (n + i) = PM.w4 k i) ↔ bs n * 16777216 + bs (n + 1) * 65536 + bs (n + 2) * 256 + bs (n + 3) = k := by
  have hv := PM.V_w4 k hk
  rw [PM.V4 _ (fun i _ => PM.w4_lt k i)] at hv
  constructor
  · intro h
    have e0 := h 0 (by omega)
    rw [Nat.add_zero] at e0
    rw [e0, h 1 (by omega), h 2 (by omega), h 3 (by omega)]
    exact hv
  · intro h
    have c0 : PM.w4 k 0 = bs n := by
      unfold PM.w4
      rw [if_pos rfl, ← h, by0 _ _ _ _ h1 h2 h3, Nat.mod_eq_of_lt h0]
    have c1 : PM.w4 k 1 = bs (n + 1) := by
      unfold PM.w4
      rw [if_neg (by omega), if_pos rfl, ← h, by1 _ _ _ _ h2 h3]
      omega
    have c2 : PM.w4 k 2 = bs (n + 2) := by
      unfold PM.w4
      rw [if_neg (by omega), if_neg (by omega), if_pos rfl, ← h, by2 _ _ _ _ h3]
      omega
    have c3 : PM.w4 k 3 = bs (n + 3) := by
      unfold PM.w4
      rw [if_neg (by omega), if_neg (by omega), if_neg (by omega), ← h]
      omega
    intro i hi
    by_cases e0 : i = 0
    · rw [e0, c0, Nat.add_zero]
    · by_cases e1 : i = 1
      · rw [e1, c1]
      · by_cases e2 : i = 2
        · rw [e2, c2]
        · rw [show i = 3 by omega, c3]
set_option maxHeartbeats 1000000 in
theorem refValid_short (a : Option Addr) (len cap : Nat) (w : World) (h : len < 4) :
    Calls Tryz.prog 55 #[.slice a len cap] w fun e w' => e = .returned (.bool false) ∧ ∃ m, w' = w.drewN m := by
  have hd : decide ((4 : Int) ≤ (len : Int)) = false := by simp; omega
  have hd3 : decide (4 ≤ len) = false := by simp; omega
  go_enter Tryz.func55, Tryz.ntmps55
  go_wp2_with fail
  go_quiet (fail)
  go_wp2
  go_ret
  exact ⟨rfl, _, rfl⟩
set_option maxRecDepth 100000 in
set_option maxHeartbeats 4000000 in
theorem refValid_long (b off len cap : Nat) (bs : Nat → Nat) (w : World) (h : 4 ≤ len) (hr : Row8 w (some ⟨b, off, none⟩) len cap bs) (hlen : len ≤ 900000) :
    Calls Tryz.prog 55 #[.slice (some ⟨b, off, none⟩) len cap] w fun e w' => e = .returned (.bool (decide (PM.R PM.g 32 (PM.V (PM.fb bs) (8 * len)) = 0))) ∧ Below w.heap.size w w' := by
  obtain ⟨n, hn⟩ : ∃ n, len = n + 4 := ⟨len - 4, by omega⟩
  have hcap := hr.le
  have hk := PM.K_lt bs n
  have HV := PM.valid_iff bs n (by rw [← hn]; exact hr.byte)
  have hd : decide ((4 : Int) ≤ (len : Int)) = true := by simp; omega
  have hN : (len : Int) - 4 = (n : Int) := by omega
  have hN0 : (0 : Int) ≤ (n : Int) := by omega
  have hNl : (n : Int) ≤ (len : Int) := by omega
  have hNc : (n : Int) ≤ (cap : Int) := by omega
  have hLN : Hid (len - n = 4) := show len - n = 4 by omega
  have hcn : n ≠ cap := by omega
  have hle1 : n + 4 ≤ len := by omega
  have hle2 : len ≤ n + 4 := by omega
  have hwn : IntKind.i64.wrap (n : Int) = (n : Int) := by rw [IntKind.wrap_i64]; omega
  have hwl : IntKind.i64.wrap ((len : Int) - 4) = (n : Int) := by rw [IntKind.wrap_i64]; omega
  have hT : ∀ w', Below w.heap.size w w' → (convert 25 9 (.slice (some ⟨b, off + n, none⟩) 4 (cap - n))).run Tryz.prog w' = .ok (.string (BA (fun i => bs (n + i)) 4)) w' := fun w' hb => by
    have R := (hr.below hb).from_ n (by omega)
    rw [show len - n = 4 by omega] at R
    exact conv_str b (off + n) 4 (cap - n) _ w' R
  have hS := refSum_row (some ⟨b, off, none⟩) n cap bs w.drew ((hr.below (Below.refl _ _).drew).upto n (by omega)) (by omega)
  have hW : ∀ w', Below w.heap.size w w' → Calls Tryz.prog 65 #[.int .u32 (PM.K bs n : Nat)] w' fun e w'' => e = .returned (.slice (some ⟨w'.heap.size, 0, none⟩) 4 4) ∧ Below w.heap.size w w'' ∧ ∃ CU : World → Result Value, (∀ u, (convert 25 9 (.slice (some ⟨w'.heap.size, 0, none⟩) 4 4)).run Tryz.prog u = CU u) ∧ CU w'' = .ok (.string (BA (PM.w4 (PM.K bs n)) 4)) w'' := fun w' hb => by
    refine (refWord_any (PM.K bs n) w' hk).mono ?_
    rintro e w'' ⟨rfl, hw⟩
    have hb2 : Below w.heap.size w w'' := by rw [hw]; exact hb.alloc hb.size _
    refine ⟨rfl, hb2, _, fun _ => rfl, ?_⟩
    rw [hw]
    exact conv_str _ 0 4 4 _ _ (row4 w' (PM.K bs n) hk)
  have hEq : (BA (fun i => bs (n + i)) 4 = BA (PM.w4 (PM.K bs n)) 4) ↔ PM.R PM.g 32 (PM.V (PM.fb bs) (8 * (n + 4))) = 0 := by
    rw [BA_eq _ _ 4 (fun i hi => hr.byte _ (by omega)) (fun i _ => PM.w4_lt _ i), ← HV]
    exact w4_iff bs n (PM.K bs n) hk (hr.byte n (by omega)) (hr.byte (n + 1) (by omega)) (hr.byte (n + 2) (by omega)) (hr.byte (n + 3) (by omega))
  have hdec : decide (PM.R PM.g 32 (PM.V (PM.fb bs) (8 * (n + 4))) = 0) = decide (BA (fun i => bs (n + i)) 4 = BA (PM.w4 (PM.K bs n)) 4) := decide_eq_decide.2 hEq.symm
  have hdec2 : decide (PM.R PM.g 32 (PM.V (PM.fb bs) (8 * len)) = 0) = ((BA (fun i => bs (n + i)) 4).toList == (BA (PM.w4 (PM.K bs n)) 4).toList) := by
    rw [hn, hdec, bytes_beq]
  rw [hdec2]
  have hL4 : len - n = 4 := by omega
  have hb0 : Below w.heap.size w w.drew := (Below.refl _ _).drew
  have hS2 : Calls Tryz.prog 66 #[.slice (some ⟨b, off, none⟩) n cap] w.drew fun e w' => e = .returned (.int .u32 (PM.K bs n : Nat)) ∧ Below w.heap.size w w' := by
    refine hS.mono ?_
    rintro e w' ⟨rfl, hb⟩
    exact ⟨rfl, ⟨hb.os, hb.tape, hb.output, hb.size, hb.block⟩⟩
  obtain ⟨CV, hCV⟩ : ∃ CV : World → Result Value, ∀ u, (convert 25 9 (.slice (some ⟨b, off + n, none⟩) 4 (cap - n))).run Tryz.prog u = CV u := ⟨_, fun _ => rfl⟩
  have hCVo : ∀ u, Below w.heap.size w u → CV u = .ok (.string (BA (fun i => bs (n + i)) 4)) u := fun u hu => by rw [← hCV]; exact hT u hu
  clear hS hT hEq hdec hdec2 HV hr hn h hlen hcap hLN
  generalize BA (fun i => bs (n + i)) 4 = A at *
  generalize BA (PM.w4 (PM.K bs n)) 4 = B at *
  generalize PM.K bs n = k at *
  go_enter Tryz.func55, Tryz.ntmps55
  go_upto_region 1 with fail
  refine wp_region_any (by kernel_rfl) ?_
  change wpAny _ _ _ _ _ _ _ (World.drew _)
  refine wpAny_at (a' := { tmps := #[Value.slice (some ⟨b, off, none⟩) len cap, undef, Value.bool false, undef, undef, undef, undef, undef, undef, undef, undef, undef, undef, undef, undef, undef, undef, undef, undef, undef, undef, undef, undef], defers := [] }) (l' := #[false, false, false, false, false, false, false, false, false, false, false, false, false, false, false, false, false, false, false, false, false]) (by kernel_rfl) (by kernel_rfl) ?_
  refine wpAny_take (i := 0) (v := Value.slice (some ⟨b, off, none⟩) len cap) rfl (by kernel_rfl) (by kernel_rfl) (by kernel_rfl) (fun _ _ _ h => h) (Or.inl ⟨by kernel_rfl, fun w => by go_simp <;> omega⟩) ?_
  refine wpAny_take (i := 1) (v := Value.int .i64 (len : Int)) rfl (by kernel_rfl) (by kernel_rfl) (by kernel_rfl) (fun _ _ _ h => h) (Or.inl ⟨by kernel_rfl, fun w => by go_simp <;> omega⟩) ?_
  refine wpAny_take (i := 2) (v := Value.bool true) rfl (by kernel_rfl) (by kernel_rfl) (by kernel_rfl) (fun _ _ _ h => h) (Or.inl ⟨by kernel_rfl, fun w => by go_simp <;> omega⟩) ?_
  refine wpAny_take (i := 3) (v := Value.bool true) rfl (by kernel_rfl) (by kernel_rfl) (by kernel_rfl) (fun _ _ _ h => h) (Or.inl ⟨by kernel_rfl, fun w => by go_simp <;> omega⟩) ?_
  refine wpAny_at (a' := { tmps := #[Value.slice (some ⟨b, off, none⟩) len cap, undef, Value.bool false, Value.slice (some ⟨b, off, none⟩) len cap, Value.int .i64 (len : Int), Value.bool true, Value.bool true, undef, undef, undef, undef, undef, undef, undef, undef, undef, undef, undef, undef, undef, undef, undef, undef], defers := [] }) (l' := #[true, true, true, true, false, false, false, false, false, false, false, false, false, false, false, false, false, false, false, false, false]) (by kernel_rfl) (by kernel_rfl) ?_
  refine wpAny_take (i := 4) (v := Value.slice (some ⟨b, off, none⟩) len cap) rfl (by kernel_rfl) (by kernel_rfl) (by kernel_rfl) (fun _ _ _ h => h) (Or.inl ⟨by kernel_rfl, fun w => by go_simp <;> omega⟩) ?_
  refine wpAny_take (i := 5) (v := Value.slice (some ⟨b, off, none⟩) len cap) rfl (by kernel_rfl) (by kernel_rfl) (by kernel_rfl) (fun _ _ _ h => h) (Or.inl ⟨by kernel_rfl, fun w => by go_simp <;> omega⟩) ?_
  refine wpAny_take (i := 6) (v := Value.int .i64 (len : Int)) rfl (by kernel_rfl) (by kernel_rfl) (by kernel_rfl) (fun _ _ _ h => h) (Or.inl ⟨by kernel_rfl, fun w => by go_simp <;> omega⟩) ?_
  refine wpAny_take (i := 7) (v := Value.int .i64 (n : Int)) rfl (by kernel_rfl) (by kernel_rfl) (by kernel_rfl) (fun _ _ _ h => h) (Or.inl ⟨by kernel_rfl, fun w => by go_simp <;> omega⟩) ?_
  refine wpAny_at (a' := { tmps := #[Value.slice (some ⟨b, off, none⟩) len cap, undef, Value.bool false, Value.slice (some ⟨b, off, none⟩) len cap, Value.int .i64 (len : Int), Value.bool true, Value.bool true, Value.slice (some ⟨b, off, none⟩) len cap, Value.slice (some ⟨b, off, none⟩) len cap, Value.int .i64 (len : Int), Value.int .i64 (n : Int), undef, undef, undef, undef, undef, undef, undef, undef, undef, undef, undef, undef], defers := [] }) (l' := #[true, true, true, true, true, true, true, true, false, false, false, false, false, false, false, false, false, false, false, false, false]) (by kernel_rfl) (by kernel_rfl) ?_
  refine wpAny_take (i := 8) (v := Value.slice (some ⟨b, off + n, none⟩) 4 (cap - n)) rfl (by kernel_rfl) (by kernel_rfl) (by kernel_rfl) (fun _ _ _ h => h) (Or.inl ⟨by kernel_rfl, fun w => by go_simp <;> omega⟩) ?_
  refine wpAny_take (i := 10) (v := Value.slice (some ⟨b, off, none⟩) len cap) rfl (by kernel_rfl) (by kernel_rfl) (by kernel_rfl) (fun _ _ _ h => h) (Or.inl ⟨by kernel_rfl, fun w => by go_simp <;> omega⟩) ?_
  refine wpAny_take (i := 11) (v := Value.slice (some ⟨b, off, none⟩) len cap) rfl (by kernel_rfl) (by kernel_rfl) (by kernel_rfl) (fun _ _ _ h => h) (Or.inl ⟨by kernel_rfl, fun w => by go_simp <;> omega⟩) ?_
  refine wpAny_take (i := 12) (v := Value.int .i64 (len : Int)) rfl (by kernel_rfl) (by kernel_rfl) (by kernel_rfl) (fun _ _ _ h => h) (Or.inl ⟨by kernel_rfl, fun w => by go_simp <;> omega⟩) ?_
  refine wpAny_take (i := 13) (v := Value.int .i64 (n : Int)) rfl (by kernel_rfl) (by kernel_rfl) (by kernel_rfl) (fun _ _ _ h => h) (Or.inl ⟨by kernel_rfl, fun w => by go_simp <;> omega⟩) ?_
  refine wpAny_take (i := 14) (v := Value.slice (some ⟨b, off, none⟩) n cap) rfl (by kernel_rfl) (by kernel_rfl) (by kernel_rfl) (fun _ _ _ h => h) (Or.inl ⟨by kernel_rfl, fun w => by go_simp <;> omega⟩) ?_
  refine wpAny_at (a' := { tmps := #[Value.slice (some ⟨b, off, none⟩) len cap, undef, Value.bool false, Value.slice (some ⟨b, off, none⟩) len cap, Value.int .i64 (len : Int), Value.bool true, Value.bool true, Value.slice (some ⟨b, off, none⟩) len cap, Value.slice (some ⟨b, off, none⟩) len cap, Value.int .i64 (len : Int), Value.int .i64 (n : Int), Value.slice (some ⟨b, off + n, none⟩) 4 (cap - n), undef, Value.slice (some ⟨b, off, none⟩) len cap, Value.slice (some ⟨b, off, none⟩) len cap, Value.int .i64 (len : Int), Value.int .i64 (n : Int), Value.slice (some ⟨b, off, none⟩) n cap, undef, undef, undef, undef, undef], defers := [] }) (l' := #[true, true, true, true, true, true, true, true, true, false, true, true, true, true, true, false, false, false, false, false, false]) (by kernel_rfl) (by kernel_rfl) ?_
  refine wpAny_two (i := 9) (j := 15) (by kernel_rfl) ?_ ?_
  · refine any_val (i := 9) (.string A) w.drew rfl (by kernel_rfl) (by go_simp) ?_
    refine wpAny_at (a' := { tmps := #[Value.slice (some ⟨b, off, none⟩) len cap, undef, Value.bool false, Value.slice (some ⟨b, off, none⟩) len cap, Value.int .i64 (len : Int), Value.bool true, Value.bool true, Value.slice (some ⟨b, off, none⟩) len cap, Value.slice (some ⟨b, off, none⟩) len cap, Value.int .i64 (len : Int), Value.int .i64 (n : Int), Value.slice (some ⟨b, off + n, none⟩) 4 (cap - n), Value.string A, Value.slice (some ⟨b, off, none⟩) len cap, Value.slice (some ⟨b, off, none⟩) len cap, Value.int .i64 (len : Int), Value.int .i64 (n : Int), Value.slice (some ⟨b, off, none⟩) n cap, undef, undef, undef, undef, undef], defers := [] }) (l' := #[true, true, true, true, true, true, true, true, true, true, true, true, true, true, true, false, false, false, false, false, false]) (by kernel_rfl) (by kernel_rfl) ?_
    refine wpAny_one (i := 15) (by kernel_rfl) ?_
    refine any_call (i := 15) 66 #[.slice (some ⟨b, off, none⟩) n cap] rfl (by kernel_rfl) (by go_simp) ?_
    refine hS2.mono ?_
    rintro e w2 ⟨rfl, hb2⟩
    refine ⟨_, rfl, ?_⟩
    refine wpAny_at (a' := { tmps := #[Value.slice (some ⟨b, off, none⟩) len cap, undef, Value.bool false, Value.slice (some ⟨b, off, none⟩) len cap, Value.int .i64 (len : Int), Value.bool true, Value.bool true, Value.slice (some ⟨b, off, none⟩) len cap, Value.slice (some ⟨b, off, none⟩) len cap, Value.int .i64 (len : Int), Value.int .i64 (n : Int), Value.slice (some ⟨b, off + n, none⟩) 4 (cap - n), Value.string A, Value.slice (some ⟨b, off, none⟩) len cap, Value.slice (some ⟨b, off, none⟩) len cap, Value.int .i64 (len : Int), Value.int .i64 (n : Int), Value.slice (some ⟨b, off, none⟩) n cap, Value.int .u32 (k : Int), undef, undef, undef, undef], defers := [] }) (l' := #[true, true, true, true, true, true, true, true, true, true, true, true, true, true, true, true, false, false, false, false, false]) (by kernel_rfl) (by kernel_rfl) ?_
    refine wpAny_one (i := 16) (by kernel_rfl) ?_
    refine any_call (i := 16) 65 #[.int .u32 (k : Int)] rfl (by kernel_rfl) (by go_simp) ?_
    refine (hW w2 hb2).mono ?_
    rintro e w3 ⟨rfl, hb3, CU, hCU, hCUo⟩
    refine ⟨_, rfl, ?_⟩
    refine wpAny_at (a' := { tmps := #[Value.slice (some ⟨b, off, none⟩) len cap, undef, Value.bool false, Value.slice (some ⟨b, off, none⟩) len cap, Value.int .i64 (len : Int), Value.bool true, Value.bool true, Value.slice (some ⟨b, off, none⟩) len cap, Value.slice (some ⟨b, off, none⟩) len cap, Value.int .i64 (len : Int), Value.int .i64 (n : Int), Value.slice (some ⟨b, off + n, none⟩) 4 (cap - n), Value.string A, Value.slice (some ⟨b, off, none⟩) len cap, Value.slice (some ⟨b, off, none⟩) len cap, Value.int .i64 (len : Int), Value.int .i64 (n : Int), Value.slice (some ⟨b, off, none⟩) n cap, Value.int .u32 (k : Int), Value.slice (some ⟨w2.heap.size, 0, none⟩) 4 4, undef, undef, undef], defers := [] }) (l' := #[true, true, true, true, true, true, true, true, true, true, true, true, true, true, true, true, true, false, false, false, false]) (by kernel_rfl) (by kernel_rfl) ?_
    refine wpAny_one (i := 17) (by kernel_rfl) ?_
    refine any_val (i := 17) (.string B) w3 rfl (by kernel_rfl) (by go_simp) ?_
    refine wpAny_at (a' := { tmps := #[Value.slice (some ⟨b, off, none⟩) len cap, undef, Value.bool false, Value.slice (some ⟨b, off, none⟩) len cap, Value.int .i64 (len : Int), Value.bool true, Value.bool true, Value.slice (some ⟨b, off, none⟩) len cap, Value.slice (some ⟨b, off, none⟩) len cap, Value.int .i64 (len : Int), Value.int .i64 (n : Int), Value.slice (some ⟨b, off + n, none⟩) 4 (cap - n), Value.string A, Value.slice (some ⟨b, off, none⟩) len cap, Value.slice (some ⟨b, off, none⟩) len cap, Value.int .i64 (len : Int), Value.int .i64 (n : Int), Value.slice (some ⟨b, off, none⟩) n cap, Value.int .u32 (k : Int), Value.slice (some ⟨w2.heap.size, 0, none⟩) 4 4, Value.string B, undef, undef], defers := [] }) (l' := #[true, true, true, true, true, true, true, true, true, true, true, true, true, true, true, true, true, true, false, false, false]) (by kernel_rfl) (by kernel_rfl) ?_
    refine wpAny_take (i := 18) (v := Value.bool (A.toList == B.toList)) rfl (by kernel_rfl) (by kernel_rfl) (by kernel_rfl) (fun _ _ _ h => h) (Or.inl ⟨by kernel_rfl, fun w => by go_simp⟩) ?_
    refine wpAny_take (i := 19) (v := Value.bool (A.toList == B.toList)) rfl (by kernel_rfl) (by kernel_rfl) (by kernel_rfl) (fun _ _ _ h => h) (Or.inl ⟨by kernel_rfl, fun w => by go_simp⟩) ?_
    refine wpAny_take (i := 20) (v := Value.bool (A.toList == B.toList)) rfl (by kernel_rfl) (by kernel_rfl) (by kernel_rfl) (fun _ _ _ h => h) (Or.inl ⟨by kernel_rfl, fun w => by go_simp⟩) ?_
    refine wpAny_done (by kernel_rfl) ?_ _
    go_wp2
    go_ret
    exact ⟨rfl, hb3⟩
  · refine any_call (i := 15) 66 #[.slice (some ⟨b, off, none⟩) n cap] rfl (by kernel_rfl) (by go_simp) ?_
    refine hS2.mono ?_
    rintro e w2 ⟨rfl, hb2⟩
    refine ⟨_, rfl, ?_⟩
    refine wpAny_at (a' := { tmps := #[Value.slice (some ⟨b, off, none⟩) len cap, undef, Value.bool false, Value.slice (some ⟨b, off, none⟩) len cap, Value.int .i64 (len : Int), Value.bool true, Value.bool true, Value.slice (some ⟨b, off, none⟩) len cap, Value.slice (some ⟨b, off, none⟩) len cap, Value.int .i64 (len : Int), Value.int .i64 (n : Int), Value.slice (some ⟨b, off + n, none⟩) 4 (cap - n), undef, Value.slice (some ⟨b, off, none⟩) len cap, Value.slice (some ⟨b, off, none⟩) len cap, Value.int .i64 (len : Int), Value.int .i64 (n : Int), Value.slice (some ⟨b, off, none⟩) n cap, Value.int .u32 (k : Int), undef, undef, undef, undef], defers := [] }) (l' := #[true, true, true, true, true, true, true, true, true, false, true, true, true, true, true, true, false, false, false, false, false]) (by kernel_rfl) (by kernel_rfl) ?_
    refine wpAny_two (i := 9) (j := 16) (by kernel_rfl) ?_ ?_
    · refine any_val (i := 9) (.string A) w2 rfl (by kernel_rfl) (by go_simp) ?_
      refine wpAny_at (a' := { tmps := #[Value.slice (some ⟨b, off, none⟩) len cap, undef, Value.bool false, Value.slice (some ⟨b, off, none⟩) len cap, Value.int .i64 (len : Int), Value.bool true, Value.bool true, Value.slice (some ⟨b, off, none⟩) len cap, Value.slice (some ⟨b, off, none⟩) len cap, Value.int .i64 (len : Int), Value.int .i64 (n : Int), Value.slice (some ⟨b, off + n, none⟩) 4 (cap - n), Value.string A, Value.slice (some ⟨b, off, none⟩) len cap, Value.slice (some ⟨b, off, none⟩) len cap, Value.int .i64 (len : Int), Value.int .i64 (n : Int), Value.slice (some ⟨b, off, none⟩) n cap, Value.int .u32 (k : Int), undef, undef, undef, undef], defers := [] }) (l' := #[true, true, true, true, true, true, true, true, true, true, true, true, true, true, true, true, false, false, false, false, false]) (by kernel_rfl) (by kernel_rfl) ?_
      refine wpAny_one (i := 16) (by kernel_rfl) ?_
      refine any_call (i := 16) 65 #[.int .u32 (k : Int)] rfl (by kernel_rfl) (by go_simp) ?_
      refine (hW w2 hb2).mono ?_
      rintro e w3 ⟨rfl, hb3, CU, hCU, hCUo⟩
      refine ⟨_, rfl, ?_⟩
      refine wpAny_at (a' := { tmps := #[Value.slice (some ⟨b, off, none⟩) len cap, undef, Value.bool false, Value.slice (some ⟨b, off, none⟩) len cap, Value.int .i64 (len : Int), Value.bool true, Value.bool true, Value.slice (some ⟨b, off, none⟩) len cap, Value.slice (some ⟨b, off, none⟩) len cap, Value.int .i64 (len : Int), Value.int .i64 (n : Int), Value.slice (some ⟨b, off + n, none⟩) 4 (cap - n), Value.string A, Value.slice (some ⟨b, off, none⟩) len cap, Value.slice (some ⟨b, off, none⟩) len cap, Value.int .i64 (len : Int), Value.int .i64 (n : Int), Value.slice (some ⟨b, off, none⟩) n cap, Value.int .u32 (k : Int), Value.slice (some ⟨w2.heap.size, 0, none⟩) 4 4, undef, undef, undef], defers := [] }) (l' := #[true, true, true, true, true, true, true, true, true, true, true, true, true, true, true, true, true, false, false, false, false]) (by kernel_rfl) (by kernel_rfl) ?_
      refine wpAny_one (i := 17) (by kernel_rfl) ?_
      refine any_val (i := 17) (.string B) w3 rfl (by kernel_rfl) (by go_simp) ?_
      refine wpAny_at (a' := { tmps := #[Value.slice (some ⟨b, off, none⟩) len cap, undef, Value.bool false, Value.slice (some ⟨b, off, none⟩) len cap, Value.int .i64 (len : Int), Value.bool true, Value.bool true, Value.slice (some ⟨b, off, none⟩) len cap, Value.slice (some ⟨b, off, none⟩) len cap, Value.int .i64 (len : Int), Value.int .i64 (n : Int), Value.slice (some ⟨b, off + n, none⟩) 4 (cap - n), Value.string A, Value.slice (some ⟨b, off, none⟩) len cap, Value.slice (some ⟨b, off, none⟩) len cap, Value.int .i64 (len : Int), Value.int .i64 (n : Int), Value.slice (some ⟨b, off, none⟩) n cap, Value.int .u32 (k : Int), Value.slice (some ⟨w2.heap.size, 0, none⟩) 4 4, Value.string B, undef, undef], defers := [] }) (l' := #[true, true, true, true, true, true, true, true, true, true, true, true, true, true, true, true, true, true, false, false, false]) (by kernel_rfl) (by kernel_rfl) ?_
      refine wpAny_take (i := 18) (v := Value.bool (A.toList == B.toList)) rfl (by kernel_rfl) (by kernel_rfl) (by kernel_rfl) (fun _ _ _ h => h) (Or.inl ⟨by kernel_rfl, fun w => by go_simp⟩) ?_
      refine wpAny_take (i := 19) (v := Value.bool (A.toList == B.toList)) rfl (by kernel_rfl) (by kernel_rfl) (by kernel_rfl) (fun _ _ _ h => h) (Or.inl ⟨by kernel_rfl, fun w => by go_simp⟩) ?_
      refine wpAny_take (i := 20) (v := Value.bool (A.toList == B.toList)) rfl (by kernel_rfl) (by kernel_rfl) (by kernel_rfl) (fun _ _ _ h => h) (Or.inl ⟨by kernel_rfl, fun w => by go_simp⟩) ?_
      refine wpAny_done (by kernel_rfl) ?_ _
      go_wp2
      go_ret
      exact ⟨rfl, hb3⟩
    · refine any_call (i := 16) 65 #[.int .u32 (k : Int)] rfl (by kernel_rfl) (by go_simp) ?_
      refine (hW w2 hb2).mono ?_
      rintro e w3 ⟨rfl, hb3, CU, hCU, hCUo⟩
      refine ⟨_, rfl, ?_⟩
      refine wpAny_at (a' := { tmps := #[Value.slice (some ⟨b, off, none⟩) len cap, undef, Value.bool false, Value.slice (some ⟨b, off, none⟩) len cap, Value.int .i64 (len : Int), Value.bool true, Value.bool true, Value.slice (some ⟨b, off, none⟩) len cap, Value.slice (some ⟨b, off, none⟩) len cap, Value.int .i64 (len : Int), Value.int .i64 (n : Int), Value.slice (some ⟨b, off + n, none⟩) 4 (cap - n), undef, Value.slice (some ⟨b, off, none⟩) len cap, Value.slice (some ⟨b, off, none⟩) len cap, Value.int .i64 (len : Int), Value.int .i64 (n : Int), Value.slice (some ⟨b, off, none⟩) n cap, Value.int .u32 (k : Int), Value.slice (some ⟨w2.heap.size, 0, none⟩) 4 4, undef, undef, undef], defers := [] }) (l' := #[true, true, true, true, true, true, true, true, true, false, true, true, true, true, true, true, true, false, false, false, false]) (by kernel_rfl) (by kernel_rfl) ?_
      refine wpAny_two (i := 9) (j := 17) (by kernel_rfl) ?_ ?_
      · refine any_val (i := 9) (.string A) w3 rfl (by kernel_rfl) (by go_simp) ?_
        refine wpAny_at (a' := { tmps := #[Value.slice (some ⟨b, off, none⟩) len cap, undef, Value.bool false, Value.slice (some ⟨b, off, none⟩) len cap, Value.int .i64 (len : Int), Value.bool true, Value.bool true, Value.slice (some ⟨b, off, none⟩) len cap, Value.slice (some ⟨b, off, none⟩) len cap, Value.int .i64 (len : Int), Value.int .i64 (n : Int), Value.slice (some ⟨b, off + n, none⟩) 4 (cap - n), Value.string A, Value.slice (some ⟨b, off, none⟩) len cap, Value.slice (some ⟨b, off, none⟩) len cap, Value.int .i64 (len : Int), Value.int .i64 (n : Int), Value.slice (some ⟨b, off, none⟩) n cap, Value.int .u32 (k : Int), Value.slice (some ⟨w2.heap.size, 0, none⟩) 4 4, undef, undef, undef], defers := [] }) (l' := #[true, true, true, true, true, true, true, true, true, true, true, true, true, true, true, true, true, false, false, false, false]) (by kernel_rfl) (by kernel_rfl) ?_
        refine wpAny_one (i := 17) (by kernel_rfl) ?_
        refine any_val (i := 17) (.string B) w3 rfl (by kernel_rfl) (by go_simp) ?_
        refine wpAny_at (a' := { tmps := #[Value.slice (some ⟨b, off, none⟩) len cap, undef, Value.bool false, Value.slice (some ⟨b, off, none⟩) len cap, Value.int .i64 (len : Int), Value.bool true, Value.bool true, Value.slice (some ⟨b, off, none⟩) len cap, Value.slice (some ⟨b, off, none⟩) len cap, Value.int .i64 (len : Int), Value.int .i64 (n : Int), Value.slice (some ⟨b, off + n, none⟩) 4 (cap - n), Value.string A, Value.slice (some ⟨b, off, none⟩) len cap, Value.slice (some ⟨b, off, none⟩) len cap, Value.int .i64 (len : Int), Value.int .i64 (n : Int), Value.slice (some ⟨b, off, none⟩) n cap, Value.int .u32 (k : Int), Value.slice (some ⟨w2.heap.size, 0, none⟩) 4 4, Value.string B, undef, undef], defers := [] }) (l' := #[true, true, true, true, true, true, true, true, true, true, true, true, true, true, true, true, true, true, false, false, false]) (by kernel_rfl) (by kernel_rfl) ?_
        refine wpAny_take (i := 18) (v := Value.bool (A.toList == B.toList)) rfl (by kernel_rfl) (by kernel_rfl) (by kernel_rfl) (fun _ _ _ h => h) (Or.inl ⟨by kernel_rfl, fun w => by go_simp⟩) ?_
        refine wpAny_take (i := 19) (v := Value.bool (A.toList == B.toList)) rfl (by kernel_rfl) (by kernel_rfl) (by kernel_rfl) (fun _ _ _ h => h) (Or.inl ⟨by kernel_rfl, fun w => by go_simp⟩) ?_
        refine wpAny_take (i := 20) (v := Value.bool (A.toList == B.toList)) rfl (by kernel_rfl) (by kernel_rfl) (by kernel_rfl) (fun _ _ _ h => h) (Or.inl ⟨by kernel_rfl, fun w => by go_simp⟩) ?_
        refine wpAny_done (by kernel_rfl) ?_ _
        go_wp2
        go_ret
        exact ⟨rfl, hb3⟩
      · refine any_val (i := 17) (.string B) w3 rfl (by kernel_rfl) (by go_simp) ?_
        refine wpAny_at (a' := { tmps := #[Value.slice (some ⟨b, off, none⟩) len cap, undef, Value.bool false, Value.slice (some ⟨b, off, none⟩) len cap, Value.int .i64 (len : Int), Value.bool true, Value.bool true, Value.slice (some ⟨b, off, none⟩) len cap, Value.slice (some ⟨b, off, none⟩) len cap, Value.int .i64 (len : Int), Value.int .i64 (n : Int), Value.slice (some ⟨b, off + n, none⟩) 4 (cap - n), undef, Value.slice (some ⟨b, off, none⟩) len cap, Value.slice (some ⟨b, off, none⟩) len cap, Value.int .i64 (len : Int), Value.int .i64 (n : Int), Value.slice (some ⟨b, off, none⟩) n cap, Value.int .u32 (k : Int), Value.slice (some ⟨w2.heap.size, 0, none⟩) 4 4, Value.string B, undef, undef], defers := [] }) (l' := #[true, true, true, true, true, true, true, true, true, false, true, true, true, true, true, true, true, true, false, false, false]) (by kernel_rfl) (by kernel_rfl) ?_
        refine wpAny_one (i := 9) (by kernel_rfl) ?_
        refine any_val (i := 9) (.string A) w3 rfl (by kernel_rfl) (by go_simp) ?_
        refine wpAny_at (a' := { tmps := #[Value.slice (some ⟨b, off, none⟩) len cap, undef, Value.bool false, Value.slice (some ⟨b, off, none⟩) len cap, Value.int .i64 (len : Int), Value.bool true, Value.bool true, Value.slice (some ⟨b, off, none⟩) len cap, Value.slice (some ⟨b, off, none⟩) len cap, Value.int .i64 (len : Int), Value.int .i64 (n : Int), Value.slice (some ⟨b, off + n, none⟩) 4 (cap - n), Value.string A, Value.slice (some ⟨b, off, none⟩) len cap, Value.slice (some ⟨b, off, none⟩) len cap, Value.int .i64 (len : Int), Value.int .i64 (n : Int), Value.slice (some ⟨b, off, none⟩) n cap, Value.int .u32 (k : Int), Value.slice (some ⟨w2.heap.size, 0, none⟩) 4 4, Value.string B, undef, undef], defers := [] }) (l' := #[true, true, true, true, true, true, true, true, true, true, true, true, true, true, true, true, true, true, false, false, false]) (by kernel_rfl) (by kernel_rfl) ?_
        refine wpAny_take (i := 18) (v := Value.bool (A.toList == B.toList)) rfl (by kernel_rfl) (by kernel_rfl) (by kernel_rfl) (fun _ _ _ h => h) (Or.inl ⟨by kernel_rfl, fun w => by go_simp⟩) ?_
        refine wpAny_take (i := 19) (v := Value.bool (A.toList == B.toList)) rfl (by kernel_rfl) (by kernel_rfl) (by kernel_rfl) (fun _ _ _ h => h) (Or.inl ⟨by kernel_rfl, fun w => by go_simp⟩) ?_
        refine wpAny_take (i := 20) (v := Value.bool (A.toList == B.toList)) rfl (by kernel_rfl) (by kernel_rfl) (by kernel_rfl) (fun _ _ _ h => h) (Or.inl ⟨by kernel_rfl, fun w => by go_simp⟩) ?_
        refine wpAny_done (by kernel_rfl) ?_ _
        go_wp2
        go_ret
        exact ⟨rfl, hb3⟩
theorem refValid_row (a : Option Addr) (len cap : Nat) (bs : Nat → Nat) (w : World) (hr : Row8 w a len cap bs) (hlen : len ≤ 900000) :
    Calls Tryz.prog 55 #[.slice a len cap] w fun e w' => e = .returned (.bool (decide (4 ≤ len ∧ PM.R PM.g 32 (PM.V (PM.fb bs) (8 * len)) = 0))) ∧ Below w.heap.size w w' := by
  by_cases h : 4 ≤ len
  · obtain ⟨b, off, rfl, _, _⟩ := hr.plain (by omega)
    have := refValid_long b off len cap bs w h hr hlen
    simpa [h] using this
  · refine (refValid_short a len cap w (by omega)).mono ?_
    rintro e w' ⟨rfl, m, rfl⟩
    exact ⟨by simp [h], below_drewN (Below.refl _ _) m⟩
end Go.Proofs.YtmleiemlfogffaaGreat
namespace Go.Proofs.YtmleiemlfogffaaGreat
set_option maxRecDepth 100000
open Go.RowKit
def cont (k : Int) : Nat := if k = 1 ∨ k = 2 ∨ k = 17 then 1 else if k = 4 ∨ k = 20 then 2 else 0
def hostK (k : Int) : Bool := decide (1 ≤ k ∧ k ≤ 5)
def devK (k : Int) : Bool := decide (17 ≤ k ∧ k ≤ 22)
def mData (k n : Int) : Bool := if cont k = 1 then decide (n = 4) else if cont k = 2 then decide (1 ≤ n ∧ n ≤ 8) else decide (n = 0)
def mSess (k s : Int) : Bool := if k = 1 then decide (s = 0) else if k = 22 then true else decide (s ≠ 0)
def hNum (k : Int) : Bool := decide (cont k = 2 ∨ k = 5 ∨ k = 21)
def mFl (k : Int) : Int := if cont k = 2 then 15 else 0
def LW (k c s n f len said : Int) : Int :=
  if hostK k = false ∧ devK k = false then 43 else if c = 0 then 44 else if said ≠ len ∨ mData k said = false then 45 else if mSess k s = false then 46
  else if hNum k ≠ decide (n ≠ 0) then 47 else if f < 0 ∨ mFl k < f then 48 else 0
theorem LW_zero {k c s n f len said : Int} (h : LW k c s n f len said = 0) : (1 ≤ k ∧ k ≤ 22) ∧ c ≠ 0 ∧ said = len ∧ (0 ≤ len ∧ len ≤ 8) ∧ (0 ≤ f ∧ f ≤ 15) := by
  unfold LW at h
  by_cases h1 : hostK k = false ∧ devK k = false
  · rw [if_pos h1] at h; omega
  · rw [if_neg h1] at h
    have hk : 1 ≤ k ∧ k ≤ 22 := by
      unfold hostK devK at h1
      simp only [decide_eq_false_iff_not] at h1
      omega
    by_cases h2 : c = 0
    · rw [if_pos h2] at h; omega
    · rw [if_neg h2] at h
      by_cases h3 : said ≠ len ∨ mData k said = false
      · rw [if_pos h3] at h; omega
      · rw [if_neg h3] at h
        have hs : said = len := by omega
        have hd : 0 ≤ len ∧ len ≤ 8 := by
          have h4 : mData k said = true := by
            cases e : mData k said
            · exact absurd (Or.inr e) h3
            · rfl
          unfold mData at h4
          rw [hs] at h4
          by_cases c1 : cont k = 1
          · rw [if_pos c1] at h4; simp only [decide_eq_true_eq] at h4; omega
          · rw [if_neg c1] at h4
            by_cases c2 : cont k = 2
            · rw [if_pos c2] at h4; simp only [decide_eq_true_eq] at h4; omega
            · rw [if_neg c2] at h4; simp only [decide_eq_true_eq] at h4; omega
        by_cases h5 : mSess k s = false
        · rw [if_pos h5] at h; omega
        · rw [if_neg h5] at h
          by_cases h6 : hNum k ≠ decide (n ≠ 0)
          · rw [if_pos h6] at h; omega
          · rw [if_neg h6] at h
            by_cases h7 : f < 0 ∨ mFl k < f
            · rw [if_pos h7] at h; omega
            · have : mFl k ≤ 15 := by
                unfold mFl
                by_cases c2 : cont k = 2
                · rw [if_pos c2]; omega
                · rw [if_neg c2]; omega
              exact ⟨hk, h2, hs, hd, by omega⟩
theorem LW_said (k c s n f len said : Int) : LW k c s n f len said = if LW k c s n f len len ≠ 43 ∧ LW k c s n f len len ≠ 44 ∧ said ≠ len then 45 else LW k c s n f len len := by
  by_cases hs : said = len
  · subst hs; rw [if_neg (fun h => h.2.2 rfl)]
  · unfold LW
    by_cases h1 : hostK k = false ∧ devK k = false
    · simp [h1]
    · simp only [if_neg h1]
      by_cases h2 : c = 0
      · simp [h2]
      · simp only [if_neg h2]
        rw [if_pos (Or.inl hs), if_pos]
        refine ⟨?_, ?_, hs⟩ <;> (repeat' (split <;> try omega))
def w4v (bs : Nat → Nat) (i : Nat) : Nat := bs i * 16777216 + bs (i + 1) * 65536 + bs (i + 2) * 256 + bs (i + 3)
theorem w4v_lt {bs : Nat → Nat} {i : Nat} (h : ∀ j, j < 4 → bs (i + j) < 256) : w4v bs i < 4294967296 := by
  have h0 := h 0 (by omega); have h1 := h 1 (by omega); have h2 := h 2 (by omega); have h3 := h 3 (by omega)
  rw [Nat.add_zero] at h0
  unfold w4v
  omega
theorem w4_w4v {bs : Nat → Nat} {i : Nat} (h : ∀ j, j < 4 → bs (i + j) < 256) (j : Nat) (hj : j < 4) : PM.w4 (w4v bs i) j = bs (i + j) := by
  have h0 := h 0 (by omega)
  rw [Nat.add_zero] at h0
  exact ((w4_iff bs i (w4v bs i) (w4v_lt h) h0 (h 1 (by omega)) (h 2 (by omega)) (h 3 (by omega))).2 rfl j hj).symm
theorem w4v_w4 {bs : Nat → Nat} {i k : Nat} (hk : k < 4294967296) (h : ∀ j, j < 4 → bs (i + j) = PM.w4 k j) : w4v bs i = k := by
  have hb : ∀ j, j < 4 → bs (i + j) < 256 := fun j hj => by rw [h j hj]; exact PM.w4_lt _ _
  have h0 := hb 0 (by omega)
  rw [Nat.add_zero] at h0
  exact (w4_iff bs i k hk h0 (hb 1 (by omega)) (hb 2 (by omega)) (hb 3 (by omega))).1 h
def fr (K c s n F len : Nat) (bs : Nat → Nat) (i : Nat) : Nat :=
  if i = 0 then K else if i < 5 then PM.w4 c (i - 1) else if i < 9 then PM.w4 s (i - 5) else if i < 13 then PM.w4 n (i - 9) else if i = 13 then F else if i = 14 then len else bs (i - 15)
theorem fr_lt {K c s n F len : Nat} {bs : Nat → Nat} (hK : K < 256) (hF : F < 256) (hl : len < 256) (hb : ∀ i, i < len → bs i < 256) : ∀ i, i < 15 + len → fr K c s n F len bs i < 256 := by
  intro i hi
  unfold fr
  by_cases h0 : i = 0
  · rw [if_pos h0]; exact hK
  · rw [if_neg h0]
    by_cases h1 : i < 5
    · rw [if_pos h1]; exact PM.w4_lt _ _
    · rw [if_neg h1]
      by_cases h2 : i < 9
      · rw [if_pos h2]; exact PM.w4_lt _ _
      · rw [if_neg h2]
        by_cases h3 : i < 13
        · rw [if_pos h3]; exact PM.w4_lt _ _
        · rw [if_neg h3]
          by_cases h4 : i = 13
          · rw [if_pos h4]; exact hF
          · rw [if_neg h4]
            by_cases h5 : i = 14
            · rw [if_pos h5]; exact hl
            · rw [if_neg h5]; exact hb _ (by omega)
theorem fr_0 (K c s n F len : Nat) (bs : Nat → Nat) : fr K c s n F len bs 0 = K := rfl
theorem fr_c (K c s n F len : Nat) (bs : Nat → Nat) (j : Nat) (hj : j < 4) : fr K c s n F len bs (1 + j) = PM.w4 c j := by
  unfold fr
  rw [if_neg (by omega), if_pos (by omega), show 1 + j - 1 = j by omega]
theorem fr_s (K c s n F len : Nat) (bs : Nat → Nat) (j : Nat) (hj : j < 4) : fr K c s n F len bs (5 + j) = PM.w4 s j := by
  unfold fr
  rw [if_neg (by omega), if_neg (by omega), if_pos (by omega), show 5 + j - 5 = j by omega]
theorem fr_n (K c s n F len : Nat) (bs : Nat → Nat) (j : Nat) (hj : j < 4) : fr K c s n F len bs (9 + j) = PM.w4 n j := by
  unfold fr
  rw [if_neg (by omega), if_neg (by omega), if_neg (by omega), if_pos (by omega), show 9 + j - 9 = j by omega]
theorem fr_f (K c s n F len : Nat) (bs : Nat → Nat) : fr K c s n F len bs 13 = F := rfl
theorem fr_l (K c s n F len : Nat) (bs : Nat → Nat) : fr K c s n F len bs 14 = len := rfl
theorem fr_d (K c s n F len : Nat) (bs : Nat → Nat) (j : Nat) : fr K c s n F len bs (15 + j) = bs j := by
  unfold fr
  rw [if_neg (by omega), if_neg (by omega), if_neg (by omega), if_neg (by omega), if_neg (by omega), if_neg (by omega), show 15 + j - 15 = j by omega]
def vld (bs : Nat → Nat) (N : Nat) : Prop := PM.R PM.g 32 (PM.V (PM.fb bs) (8 * N)) = 0
instance (bs : Nat → Nat) (N : Nat) : Decidable (vld bs N) := inferInstanceAs (Decidable (_ = _))
def DE (bs : Nat → Nat) (N : Nat) : Int :=
  if N < 19 then 40 else if 27 < N then 41 else if ¬ vld bs N then 42 else LW (bs 0) (w4v bs 1) (w4v bs 5) (w4v bs 9) (bs 13) ((N - 19 : Nat) : Int) (bs 14)
def dF (bs : Nat → Nat) (N x : Nat) : Nat := if DE bs N = 0 then x else 0
theorem DE_zero {bs : Nat → Nat} {N : Nat} (h : DE bs N = 0) : 19 ≤ N ∧ N ≤ 27 ∧ vld bs N ∧ LW (bs 0) (w4v bs 1) (w4v bs 5) (w4v bs 9) (bs 13) ((N - 19 : Nat) : Int) (bs 14) = 0 := by
  unfold DE at h
  by_cases h1 : N < 19
  · rw [if_pos h1] at h; omega
  · rw [if_neg h1] at h
    by_cases h2 : 27 < N
    · rw [if_pos h2] at h; omega
    · rw [if_neg h2] at h
      by_cases h3 : vld bs N
      · rw [if_neg (fun e => e h3)] at h
        exact ⟨by omega, by omega, h3, h⟩
      · rw [if_pos h3] at h; omega
theorem DE_check {bs : Nat → Nat} {N : Nat} (h1 : 19 ≤ N) (h2 : N ≤ 27) (h3 : ¬ vld bs N) : DE bs N = 42 := by
  unfold DE
  rw [if_neg (by omega), if_neg (by omega), if_pos h3]
theorem DE_back (K c s n F len : Nat) (bs : Nat → Nat) (hc : c < 4294967296) (hs : s < 4294967296) (hn : n < 4294967296) (hl : len ≤ 8) (h : LW K c s n F len len = 0) :
    DE (PM.sl (fr K c s n F len bs) (15 + len)) (15 + len + 4) = 0 ∧ PM.sl (fr K c s n F len bs) (15 + len) 0 = K ∧ w4v (PM.sl (fr K c s n F len bs) (15 + len)) 1 = c ∧ w4v (PM.sl (fr K c s n F len bs) (15 + len)) 5 = s ∧ w4v (PM.sl (fr K c s n F len bs) (15 + len)) 9 = n ∧
      PM.sl (fr K c s n F len bs) (15 + len) 13 = F ∧ ∀ j, j < len → PM.sl (fr K c s n F len bs) (15 + len) (15 + j) = bs j := by
  have hsl : ∀ i, i < 15 + len → PM.sl (fr K c s n F len bs) (15 + len) i = fr K c s n F len bs i := fun i hi => by
    unfold PM.sl PM.ct
    rw [if_pos hi]
  have hV : vld (PM.sl (fr K c s n F len bs) (15 + len)) (15 + len + 4) := PM.V_sl _ _
  have e0 : PM.sl (fr K c s n F len bs) (15 + len) 0 = K := hsl 0 (by omega)
  have e1 : w4v (PM.sl (fr K c s n F len bs) (15 + len)) 1 = c := w4v_w4 hc fun j hj => by rw [hsl _ (by omega), fr_c _ _ _ _ _ _ _ _ hj]
  have e2 : w4v (PM.sl (fr K c s n F len bs) (15 + len)) 5 = s := w4v_w4 hs fun j hj => by rw [hsl _ (by omega), fr_s _ _ _ _ _ _ _ _ hj]
  have e3 : w4v (PM.sl (fr K c s n F len bs) (15 + len)) 9 = n := w4v_w4 hn fun j hj => by rw [hsl _ (by omega), fr_n _ _ _ _ _ _ _ _ hj]
  have e4 : PM.sl (fr K c s n F len bs) (15 + len) 13 = F := hsl 13 (by omega)
  have e5 : PM.sl (fr K c s n F len bs) (15 + len) 14 = len := hsl 14 (by omega)
  refine ⟨?_, e0, e1, e2, e3, e4, fun j hj => by rw [hsl _ (by omega), fr_d]⟩
  unfold DE
  rw [if_neg (by omega), if_neg (by omega), if_neg (fun e => e hV), e0, e1, e2, e3, e4, e5, show 15 + len + 4 - 19 = len by omega]
  exact h
theorem fr_form (bs : Nat → Nat) (N : Nat) (hb : ∀ i, i < N → bs i < 256) (h : DE bs N = 0) :
    LW (bs 0) (w4v bs 1) (w4v bs 5) (w4v bs 9) (bs 13) ((N - 19 : Nat) : Int) ((N - 19 : Nat) : Int) = 0 ∧
      ∀ i, i < N → PM.sl (fr (bs 0) (w4v bs 1) (w4v bs 5) (w4v bs 9) (bs 13) (N - 19) (fun i => bs (15 + i))) (N - 4) i = bs i := by
  obtain ⟨h1, h2, h3, h4⟩ := DE_zero h
  obtain ⟨_, _, h5, _, _⟩ := LW_zero h4
  have h14 : bs 14 = N - 19 := by omega
  rw [h5] at h4
  refine ⟨h4, ?_⟩
  have hfr : ∀ i, i < N - 4 → fr (bs 0) (w4v bs 1) (w4v bs 5) (w4v bs 9) (bs 13) (N - 19) (fun i => bs (15 + i)) i = bs i := fun i hi => by
    by_cases q0 : i = 0
    · subst q0; rfl
    · by_cases q1 : i < 5
      · obtain ⟨j, rfl⟩ : ∃ j, i = 1 + j := ⟨i - 1, by omega⟩
        rw [fr_c _ _ _ _ _ _ _ _ (by omega), w4_w4v (fun j hj => hb _ (by omega)) _ (by omega)]
      · by_cases q2 : i < 9
        · obtain ⟨j, rfl⟩ : ∃ j, i = 5 + j := ⟨i - 5, by omega⟩
          rw [fr_s _ _ _ _ _ _ _ _ (by omega), w4_w4v (fun j hj => hb _ (by omega)) _ (by omega)]
        · by_cases q3 : i < 13
          · obtain ⟨j, rfl⟩ : ∃ j, i = 9 + j := ⟨i - 9, by omega⟩
            rw [fr_n _ _ _ _ _ _ _ _ (by omega), w4_w4v (fun j hj => hb _ (by omega)) _ (by omega)]
          · by_cases q4 : i = 13
            · subst q4; rfl
            · by_cases q5 : i = 14
              · subst q5; rw [fr_l, h14]
              · obtain ⟨j, rfl⟩ : ∃ j, i = 15 + j := ⟨i - 15, by omega⟩
                rw [fr_d]
  intro i hi
  unfold PM.sl PM.ct
  by_cases hlt : i < N - 4
  · rw [if_pos hlt, hfr i hlt]
  · rw [if_neg hlt]
    obtain ⟨n, hn⟩ : ∃ n, N = n + 4 := ⟨N - 4, by omega⟩
    subst hn
    have hk := PM.K_lt bs n
    have hv := (PM.valid_iff bs n hb).2 h3
    rw [show n + 4 - 4 = n by omega] at hlt hfr ⊢
    rw [PM.K_congr _ bs n hfr]
    have := (w4_iff bs n (PM.K bs n) hk (hb _ (by omega)) (hb _ (by omega)) (hb _ (by omega)) (hb _ (by omega))).2 hv (i - n) (by omega)
    rw [← this, show n + (i - n) = i by omega]
end Go.Proofs.YtmleiemlfogffaaGreat
namespace Go.Proofs.YtmleiemlfogffaaGreat
set_option maxRecDepth 100000
open Go.RowKit
def okP (c o i t n : Int) : Prop := c ≠ 0 ∧ (1 ≤ o ∧ o ≤ 8) ∧ (1 ≤ i ∧ i ≤ 8) ∧ (1 ≤ t ∧ t ≤ 1048576) ∧ 2 ≤ n
instance okP_dec (c o i t n : Int) : Decidable (okP c o i t n) := by unfold okP; infer_instance
def pe (c o i t n k : Nat) : Nat := if k < 4 then PM.w4 c k else if k = 4 then o else if k = 5 then i else if k < 10 then PM.w4 t (k - 6) else PM.w4 n (k - 10)
theorem pe_lt {c o i t n : Nat} (ho : o < 256) (hi : i < 256) (k : Nat) : pe c o i t n k < 256 := by
  unfold pe
  by_cases h1 : k < 4
  · rw [if_pos h1]; exact PM.w4_lt _ _
  · rw [if_neg h1]
    by_cases h2 : k = 4
    · rw [if_pos h2]; exact ho
    · rw [if_neg h2]
      by_cases h3 : k = 5
      · rw [if_pos h3]; exact hi
      · rw [if_neg h3]
        by_cases h4 : k < 10
        · rw [if_pos h4]; exact PM.w4_lt _ _
        · rw [if_neg h4]; exact PM.w4_lt _ _
theorem step_call {P : Program} {ops : Array Oper} {o : Oper} {a : Act} {w : World} {K : Act → World → Prop} {Q : Exit → Act → World → Prop} {E : Prop} {R : World → Prop}
    (hg : o.guard = none) (f : FuncId) (ts : Array Operand) (ty : Array TypeId) (_ : o.op = .call { callee := .value (.func f), args := ts, argTypes := ty }) (args : Array Value) (v : Value) (hrun : (execOp a.eval o).run P w = .ok (.enter f args) w) (hc : Calls P f args w fun e w' => e = .returned v ∧ R w') (hK : ∀ w', R w' → K (a.put o.dst v) w') :
    if Region.wanted o (yielded ops a.tmps) = true then Oper.wp P o a w K Q else E := by
  have hw : Region.wanted o (yielded ops a.tmps) = true := by simp [Region.wanted, hg]
  rw [if_pos hw]
  unfold Oper.wp
  rw [hrun]
  refine hc.mono ?_
  rintro e w'' ⟨rfl, hr⟩
  exact hK _ hr
theorem step_copy8P {ops : Array Oper} {o : Oper} {a : Act} {w : World} {K : Act → World → Prop} {Q : Exit → Act → World → Prop} {E : Prop} (hgd : o.guard = none) (d s : Operand)
    (ho : o.op = .call { callee := .builtin .copy, args := #[d, s], argTypes := #[25, 25] })
    (B g n cap off dl dc : Nat) (f : Nat → Nat) (hd : a.eval d = .slice (some ⟨g, off, none⟩) dl dc) (hown : w.ownsRow B 5 1 (.slice (some ⟨g, 0, none⟩) n cap) n (CB f n))
    (ao : Option Addr) (m c : Nat) (bs : Nat → Nat) (hs : a.eval s = .slice ao m c) (hrow : Row8 w ao m c bs) (hdl : m ≤ dl) (hoff : off + m ≤ n)
    (w0 : World) (hb : Below B w0 w)
    (h : ∀ w', Hid (w'.ownsRow B 5 1 (.slice (some ⟨g, 0, none⟩) n cap) n (CB (fun i => if off ≤ i ∧ i < off + m then bs (i - off) else f i) n)) → Below B w0 w' → K (a.put o.dst (goInt (m : Nat))) w') :
    if Region.wanted o (yielded ops a.tmps) = true then Oper.wp Tryz.prog o a w K Q else E := by
  rcases hown.2 with ⟨h', _⟩ | ⟨g', cap', cur, h', hbg, hg, hnc, hcm, hcs, htake⟩
  · simp at h'
  · simp only [Value.slice.injEq, Option.some.injEq, Addr.mk.injEq, and_true, true_and] at h'
    obtain ⟨rfl, rfl⟩ := h'
    rw [Nat.mul_one] at hcs htake
    have hmin : Nat.min m dl = m := Nat.min_eq_left hdl
    refine step_copy_splice hgd d s 25 25 ho 5 Tryz.underlying25 size_u8 _ ao dl dc m c hd hs g off cur.toList 5 (by simpa using hg) (CB bs m) (by rw [CB_length, hmin]) ?_ (by rw [CB_length, Array.length_toList, hcs]; omega) (CB_one _ _) B w0 hb hbg ?_
    · intro hpos
      refine ⟨rfl, ?_⟩
      rw [CB_length] at hpos
      cases ao with
      | none => have := (hrow.nil rfl).1; omega
      | some ad =>
        refine ⟨ad, rfl, fun j v hj => ?_⟩
        by_cases hlt : j < m
        · rw [CB_get _ _ _ hlt] at hj
          cases hj
          exact hrow.src ad rfl j hlt
        · rw [CB_none _ _ _ (by omega)] at hj; cases hj
    · intro w' hg' hb'
      rw [CB_length]
      refine h w' ⟨by rw [CB_length]; omega, .inr ⟨g, cap, _, rfl, hbg, hg'.out, hnc, hcm, ?_, ?_⟩⟩ hb'
      · rw [List.size_toArray, length_splice _ _ _ (by rw [CB_length, Array.length_toList, hcs]; omega), Array.length_toList, hcs, Nat.mul_one]
      · rw [Nat.mul_one]
        simp only [splice, CB_length]
        apply List.ext_getElem?
        intro i
        rw [List.getElem?_take]
        by_cases hi : i < n
        · rw [if_pos hi, CB_get _ n i hi]
          have hcur := congrArg (·[i]?) htake
          simp only [List.getElem?_take, if_pos hi, CB_get f n i hi] at hcur
          have hlen : (cur.toList.take off).length = off := by rw [List.length_take, Array.length_toList, hcs]; omega
          by_cases h1 : i < off
          · rw [if_neg (by omega), List.getElem?_append_left (by rw [hlen]; exact h1), List.getElem?_take, if_pos h1]
            exact hcur
          · by_cases h2 : i < off + m
            · rw [if_pos ⟨by omega, h2⟩, List.getElem?_append_right (by rw [hlen]; omega), hlen, List.getElem?_append_left (by rw [CB_length]; omega), CB_get _ _ _ (by omega)]
            · rw [if_neg (by omega), List.getElem?_append_right (by rw [hlen]; omega), hlen, List.getElem?_append_right (by rw [CB_length]; omega), CB_length, List.getElem?_drop, show off + m + (i - off - m) = i by omega]
              exact hcur
        · rw [if_neg hi, CB_none _ n i (by omega)]
theorem row4P (w : World) (x : Nat) (hx : x < 4294967296) :
    Row8 (w.alloc (.cells #[.int .u8 ((x : Int) / 16777216), .int .u8 ((x : Int) / 65536 % 256), .int .u8 ((x : Int) / 256 % 256), .int .u8 ((x : Int) % 256)] 5)) (some ⟨w.heap.size, 0, none⟩) 4 4 (PM.w4 x) := by
  refine row8_new w _ _ (PM.w4 x) 4 (fun i _ => PM.w4_lt x i) (fun i hi => ?_)
  have e0 : (x : Int) / 16777216 = ((PM.w4 x 0 : Nat) : Int) := by show _ = ((x / 16777216 % 256 : Nat) : Int); omega
  have e1 : (x : Int) / 65536 % 256 = ((PM.w4 x 1 : Nat) : Int) := by show _ = ((x / 65536 % 256 : Nat) : Int); omega
  have e2 : (x : Int) / 256 % 256 = ((PM.w4 x 2 : Nat) : Int) := by show _ = ((x / 256 % 256 : Nat) : Int); omega
  have e3 : (x : Int) % 256 = ((PM.w4 x 3 : Nat) : Int) := by show _ = ((x % 256 : Nat) : Int); omega
  rw [e0, e1, e2, e3]
  rcases (show i = 0 ∨ i = 1 ∨ i = 2 ∨ i = 3 by omega) with rfl | rfl | rfl | rfl <;> rfl
theorem belowA {w0 w : World} (h : Below w0.heap.size w0 w) (o : Obj) : Below w0.heap.size w0 (w.alloc o) := h.alloc h.size o
structure Bx (wx : World) (g : Nat) (c : Nat) (o i t : Int) (n : Nat) : Prop where
  c0 : wx.cell? ⟨g, 0, none⟩ = some (.int .u32 c)
  c1 : wx.cell? ⟨g, 1, none⟩ = some (.int .i64 o)
  c2 : wx.cell? ⟨g, 2, none⟩ = some (.int .i64 i)
  c3 : wx.cell? ⟨g, 3, none⟩ = some (.int .i64 t)
  c4 : wx.cell? ⟨g, 4, none⟩ = some (.int .u32 n)
theorem bx_new (w : World) (c : Nat) (o i t : Int) (n : Nat) (wx : World) (hb : Below (w.alloc (.cells #[.int .u32 c, .int .i64 o, .int .i64 i, .int .i64 t, .int .u32 n] 24)).heap.size (w.alloc (.cells #[.int .u32 c, .int .i64 o, .int .i64 i, .int .i64 t, .int .u32 n] 24)) wx) :
    Bx wx w.heap.size c o i t n := by
  have h : ∀ j, wx.cell? ⟨w.heap.size, j, none⟩ = (w.alloc (.cells #[.int .u32 c, .int .i64 o, .int .i64 i, .int .i64 t, .int .u32 n] 24)).cell? ⟨w.heap.size, j, none⟩ := fun j => hb.cell (p := ⟨w.heap.size, j, none⟩) (by simp)
  exact ⟨(h 0).trans (by simp), (h 1).trans (by simp), (h 2).trans (by simp), (h 3).trans (by simp), (h 4).trans (by simp)⟩
theorem Bx.below {wa wx : World} {g : Nat} {c : Nat} {o i t : Int} {n : Nat} (h : Bx wa g c o i t n) (hg : g < wa.heap.size) (hb : Below wa.heap.size wa wx) : Bx wx g c o i t n := by
  have h' : ∀ j, wx.cell? ⟨g, j, none⟩ = wa.cell? ⟨g, j, none⟩ := fun j => hb.cell (p := ⟨g, j, none⟩) hg
  exact ⟨(h' 0).trans h.c0, (h' 1).trans h.c1, (h' 2).trans h.c2, (h' 3).trans h.c3, (h' 4).trans h.c4⟩
set_option maxRecDepth 100000 in
set_option maxHeartbeats 1000000 in
theorem within_any (x m : Int) (w : World) (b : Bool) (hb : decide (1 ≤ x ∧ x ≤ m) = b) :
    Calls Tryz.prog 72 #[.int .i64 x, .int .i64 m] w fun e w' => e = .returned (.bool b) ∧ w' = w := by
  by_cases h1 : 1 ≤ x
  · have q1 : decide (1 ≤ x) = true := decide_eq_true h1
    have hb2 : decide (x ≤ m) = b := by rw [← hb]; simp [h1]
    clear hb h1
    go_enter Tryz.func72, Tryz.ntmps72
    go_wp2_with fail
    go_ret
    exact ⟨by simp, rfl⟩
  · have q1 : decide (1 ≤ x) = false := decide_eq_false h1
    have hb2 : b = false := by rw [← hb]; simp [h1]
    subst hb2
    clear hb h1
    go_enter Tryz.func72, Tryz.ntmps72
    go_wp2_with fail
    go_ret
    exact ⟨rfl, rfl⟩
theorem bytes4_any (x : Nat) (w : World) (hx : x < 4294967296) :
    Calls Tryz.prog 196 #[.int .u32 x] w fun e w' => e = .returned (.slice (some ⟨w.heap.size, 0, none⟩) 4 4) ∧ w' = w.alloc (.cells #[.int .u8 ((x : Int) / 16777216), .int .u8 ((x : Int) / 65536 % 256), .int .u8 ((x : Int) / 256 % 256), .int .u8 ((x : Int) % 256)] 5) := by
  go_enter Tryz.func196, Tryz.ntmps196
  go_wp2
  go_ret
  exact ⟨rfl, rfl⟩
set_option maxRecDepth 100000 in
set_option maxHeartbeats 2000000 in
theorem check_any (c : Nat) (o i t : Int) (n : Nat) (w : World) (E : Int) (hE : (if okP c o i t n then 0 else 90) = E) :
    Calls Tryz.prog 35 #[.agg #[.int .u32 c, .int .i64 o, .int .i64 i, .int .i64 t, .int .u32 n]] w fun e w' => e = .returned (.int .i64 E) ∧ Below w.heap.size w w' := by
  have hb : Below w.heap.size w (w.alloc (.cells #[.int .u32 c, .int .i64 o, .int .i64 i, .int .i64 t, .int .u32 n] 24)) := (Below.refl _ _).alloc (Nat.le_refl _) _
  have wi1 := fun b h wx => within_any o 8 wx b h
  have wi2 := fun b h wx => within_any i 8 wx b h
  have wi3 := fun b h wx => within_any t 1048576 wx b h
  have HB : Hid (_) := hb
  have HE : Hid (_) := hE
  clear hE hb
  by_cases h1 : (c : Int) = 0
  · have q1 : ((c : Int) == 0) = true := by simpa using h1
    have hE' : E = 90 := by rw [← HE.out, if_neg (fun h => h.1 h1)]
    subst hE'
    clear wi1 wi2 wi3 HE h1
    go_enter Tryz.func35, Tryz.ntmps35
    go_wp2_with fail
    go_ret
    exact ⟨rfl, HB.out⟩
  · have q1 : ((c : Int) == 0) = false := by simpa using h1
    by_cases h2 : 1 ≤ o ∧ o ≤ 8
    · replace wi1 := wi1 true (decide_eq_true h2)
      by_cases h3 : 1 ≤ i ∧ i ≤ 8
      · replace wi2 := wi2 true (decide_eq_true h3)
        by_cases h4 : 1 ≤ t ∧ t ≤ 1048576
        · replace wi3 := wi3 true (decide_eq_true h4)
          by_cases h5 : (n : Int) < 2
          · have q5 : decide ((n : Int) < 2) = true := decide_eq_true h5
            have hE' : E = 90 := by rw [← HE.out, if_neg (fun h => absurd h.2.2.2.2 (by omega))]
            subst hE'
            clear HE h1 h2 h3 h4 h5
            go_enter Tryz.func35, Tryz.ntmps35
            go_wp2_with fail
            refine (wi1 _).mono ?_
            rintro e w1 ⟨rfl, rfl⟩
            go_wp2_with fail
            refine (wi2 _).mono ?_
            rintro e w1 ⟨rfl, rfl⟩
            go_wp2_with fail
            refine (wi3 _).mono ?_
            rintro e w1 ⟨rfl, rfl⟩
            go_wp2_with fail
            go_ret
            exact ⟨rfl, HB.out⟩
          · have q5 : decide ((n : Int) < 2) = false := decide_eq_false h5
            have hE' : E = 0 := by rw [← HE.out, if_pos ⟨h1, h2, h3, h4, by omega⟩]
            subst hE'
            clear HE h1 h2 h3 h4 h5
            go_enter Tryz.func35, Tryz.ntmps35
            go_wp2_with fail
            refine (wi1 _).mono ?_
            rintro e w1 ⟨rfl, rfl⟩
            go_wp2_with fail
            refine (wi2 _).mono ?_
            rintro e w1 ⟨rfl, rfl⟩
            go_wp2_with fail
            refine (wi3 _).mono ?_
            rintro e w1 ⟨rfl, rfl⟩
            go_wp2_with fail
            go_ret
            exact ⟨rfl, HB.out⟩
        · replace wi3 := wi3 false (decide_eq_false h4)
          have hE' : E = 90 := by rw [← HE.out, if_neg (fun h => h4 h.2.2.2.1)]
          subst hE'
          clear HE h1 h2 h3 h4
          go_enter Tryz.func35, Tryz.ntmps35
          go_wp2_with fail
          refine (wi1 _).mono ?_
          rintro e w1 ⟨rfl, rfl⟩
          go_wp2_with fail
          refine (wi2 _).mono ?_
          rintro e w1 ⟨rfl, rfl⟩
          go_wp2_with fail
          refine (wi3 _).mono ?_
          rintro e w1 ⟨rfl, rfl⟩
          go_wp2_with fail
          go_ret
          exact ⟨rfl, HB.out⟩
      · replace wi2 := wi2 false (decide_eq_false h3)
        have hE' : E = 90 := by rw [← HE.out, if_neg (fun h => h3 h.2.2.1)]
        subst hE'
        clear HE h1 h2 h3 wi3
        go_enter Tryz.func35, Tryz.ntmps35
        go_wp2_with fail
        refine (wi1 _).mono ?_
        rintro e w1 ⟨rfl, rfl⟩
        go_wp2_with fail
        refine (wi2 _).mono ?_
        rintro e w1 ⟨rfl, rfl⟩
        go_wp2_with fail
        go_ret
        exact ⟨rfl, HB.out⟩
    · replace wi1 := wi1 false (decide_eq_false h2)
      have hE' : E = 90 := by rw [← HE.out, if_neg (fun h => h2 h.2.1)]
      subst hE'
      clear HE h1 h2 wi2 wi3
      go_enter Tryz.func35, Tryz.ntmps35
      go_wp2_with fail
      refine (wi1 _).mono ?_
      rintro e w1 ⟨rfl, rfl⟩
      go_wp2_with fail
      go_ret
      exact ⟨rfl, HB.out⟩
end Go.Proofs.YtmleiemlfogffaaGreat
namespace Go.Proofs.YtmleiemlfogffaaGreat
set_option maxRecDepth 100000
open Go.RowKit
structure Pm where
  c : Nat
  o : Nat
  i : Nat
  t : Nat
  n : Nat
structure Pok (P : Pm) : Prop where
  ok : okP P.c P.o P.i P.t P.n
  c : P.c < 4294967296
  n : P.n < 4294967296
theorem Pok.o1 {P : Pm} (h : Pok P) : 1 ≤ P.o := by have := h.ok.2.1; omega
theorem Pok.o8 {P : Pm} (h : Pok P) : P.o ≤ 8 := by have := h.ok.2.1; omega
theorem Pok.i1 {P : Pm} (h : Pok P) : 1 ≤ P.i := by have := h.ok.2.2.1; omega
theorem Pok.i8 {P : Pm} (h : Pok P) : P.i ≤ 8 := by have := h.ok.2.2.1; omega
theorem Pok.t1 {P : Pm} (h : Pok P) : 1 ≤ P.t := by have := h.ok.2.2.2.1; omega
theorem Pok.t2 {P : Pm} (h : Pok P) : P.t ≤ 1048576 := by have := h.ok.2.2.2.1; omega
theorem Pok.n2 {P : Pm} (h : Pok P) : 2 ≤ P.n := by have := h.ok.2.2.2.2; omega
theorem Pok.c0 {P : Pm} (h : Pok P) : P.c ≠ 0 := by have := h.ok.1; omega
structure Sd where
  ms : Ms
  L : List R4
  dc : Nat
  v : Vs
  st : Nat
  ss : Nat
  nm : Nat
  sn : Nat
  od : Nat
  ap : Nat → Nat
  hd : Bool
def dnote (s : Sd) (x : Int) : Sd := { s with L := s.L ++ [(((s.L.length + 1 : Nat) : Int), x, (s.ss : Int), (s.nm : Int))] }
def dlatch (s : Sd) (x : Int) : Sd := if vtripB s.v x = true then dnote { s with v := vtrip s.v x } x else { s with v := vtrip s.v x }
def don (s : Sd) : Sd := { s with od := 0, dc := 0, v := vfresh s.v }
def dleave (s : Sd) (k : Nat) : Sd := { s with v := vrun s.v false, ss := 0, nm := 0, sn := 0, od := 0, st := k }
def dlife (s : Sd) (k : Nat) : Sd := { s with dc := 0, v := vnew, st := k, ss := 0, nm := 0, sn := 0, od := 0, ap := fun _ => 0, hd := false }
def dbusy (s : Sd) : Bool := decide (s.st = 2 ∨ s.st = 3 ∨ s.st = 4)
def dodd (s : Sd) : Sd :=
  if dbusy s = true then
    (if s.od + 1 < 4 then { s with od := s.od + 1 } else dleave (if s.st = 4 then dlatch { s with od := s.od + 1 } 131 else { s with od := s.od + 1 }) 1)
  else s
def dflags (s : Sd) : Nat := (if von s.v = true then 0 else 1) + (if vreq s.v = true then 2 else 0) + (if s.v.lat = 0 then 0 else 4) + (if s.hd = true then 8 else 0)
abbrev Fm := Nat × (Nat → Nat)
def fm0 : Fm := (0, fun _ => 0)
def encF (k c s n f len : Nat) (bs : Nat → Nat) : Fm := if LW k c s n f len len = 0 then (15 + len + 4, PM.sl (fr k c s n f len bs) (15 + len)) else fm0
def dsay (P : Pm) (s : Sd) (k num fl len : Nat) (bs : Nat → Nat) : Fm := encF k P.c s.ss num fl len bs
def dnone (P : Pm) (s : Sd) : Fm := dsay P s 22 0 0 0 (fun _ => 0)
def dsg (P : Pm) : Nat → Nat := PM.w4 (PM.K (pe P.c P.o P.i P.t P.n) 14)
def doffer (P : Pm) (s : Sd) : Fm := dsay P s 17 0 0 4 (dsg P)
def dsigned (P : Pm) (len : Nat) (bs : Nat → Nat) : Bool := decide (BA bs len = BA (dsg P) 4)
structure Rs where
  s : Sd
  f : Fm
  e : Int
def dbegin (P : Pm) (mx n : Nat) (s : Sd) : Rs :=
  if (nx mx n s.ms.bs false s.ms).e = 80 then ⟨dleave (dlatch { s with ms := (nx mx n s.ms.bs false s.ms).s } 80) 5, dnone P (dleave (dlatch { s with ms := (nx mx n s.ms.bs false s.ms).s } 80) 5), 80⟩
  else if (nx mx n s.ms.bs false s.ms).e ≠ 0 then ⟨dlife { s with ms := (nx mx n s.ms.bs false s.ms).s } 6, fm0, (nx mx n s.ms.bs false s.ms).e⟩
  else ⟨{ dleave { s with ms := (nx mx n s.ms.bs false s.ms).s } 2 with ss := (nx mx n s.ms.bs false s.ms).v }, doffer P { dleave { s with ms := (nx mx n s.ms.bs false s.ms).s } 2 with ss := (nx mx n s.ms.bs false s.ms).v }, 0⟩
def drefuse (P : Pm) (s : Sd) (e : Int) : Rs := ⟨dodd s, dnone P (dodd s), e⟩
def dwish (P : Pm) (mx n : Nat) (s : Sd) : Rs :=
  if (dodd s).st = 2 then ⟨dodd s, doffer P (dodd s), 130⟩ else if (dodd s).st = 3 ∨ (dodd s).st = 4 then ⟨dodd s, dnone P (dodd s), 130⟩ else dbegin P mx n (dodd s)
def dechoS (s : Sd) : Sd := if s.st = 2 then don { s with st := 3 } else s
def dstartS (s : Sd) : Sd := if s.st = 3 then don { s with st := 4, v := vrun s.v true } else s
def ddataS (s : Sd) (num fl : Nat) (bs : Nat → Nat) : Sd := { don { s with nm := num } with v := vtake (vhold (don { s with nm := num }).v (decide (8 ≤ fl))) bs, sn := s.sn + 1 }
def dlastS (P : Pm) (s : Sd) : Sd := { dlatch (don { s with nm := P.n }) 80 with sn := P.n }
def dendS (s : Sd) : Sd := { s with v := vrun s.v false, st := 5 }
def dtake (P : Pm) (mx n : Nat) (s : Sd) (k ss num fl len : Nat) (bs : Nat → Nat) : Rs :=
  if k = 1 then (if dsigned P len bs = true then dwish P mx n s else drefuse P s 91)
  else if k = 2 ∧ ss = s.ss ∧ (s.st = 2 ∨ s.st = 3) then (if dsigned P len bs = true then ⟨dechoS s, dsay P (dechoS s) 18 0 0 0 (fun _ => 0), 0⟩ else drefuse P s 91)
  else if k = 3 ∧ ss = s.ss ∧ (s.st = 3 ∨ s.st = 4 ∧ s.nm = 0) then ⟨dstartS s, dsay P (dstartS s) 19 0 0 0 (fun _ => 0), 0⟩
  else if k = 4 ∧ (ss = s.ss ∧ s.st = 4 ∧ s.nm < num) ∧ num < P.n ∧ len = P.o then ⟨ddataS s num fl bs, dsay P (ddataS s num fl bs) 20 (s.sn + 1) (dflags (ddataS s num fl bs)) P.i s.ap, 0⟩
  else if k = 5 ∧ (ss = s.ss ∧ s.st = 4 ∧ s.nm < num) ∧ num = P.n then ⟨dendS (dlastS P s), dsay P (dlastS P s) 21 P.n 0 0 (fun _ => 0), 0⟩
  else drefuse P s 130
def dhear (P : Pm) (mx n : Nat) (s : Sd) (len : Nat) (bs : Nat → Nat) : Rs :=
  if DE bs len ≠ 0 then ⟨s, fm0, DE bs len⟩ else if hostK (bs 0) = false then ⟨s, fm0, 43⟩ else if w4v bs 1 ≠ P.c then ⟨s, fm0, 44⟩
  else dtake P mx n s (bs 0) (w4v bs 5) (w4v bs 9) (bs 13) (len - 19) (fun i => bs (15 + i))
def drecv (P : Pm) (mx n : Nat) (s : Sd) (len : Nat) (bs : Nat → Nat) : Rs :=
  if s.st = 6 then ⟨s, fm0, 70⟩
  else if (dhear P mx n s len bs).e ≠ 0 ∧ (dhear P mx n s len bs).e ≠ 70 then ⟨dnote (dhear P mx n s len bs).s (dhear P mx n s len bs).e, (dhear P mx n s len bs).f, (dhear P mx n s len bs).e⟩
  else dhear P mx n s len bs
def dwriteE (P : Pm) (s : Sd) (len : Nat) : Int := if s.st = 6 then 70 else if len = P.i then 0 else 45
def dwriteS (P : Pm) (s : Sd) (len : Nat) (bs : Nat → Nat) (h : Bool) : Sd := if s.st = 6 then s else if len = P.i then { s with ap := bs, hd := h } else s
def dtickE (s : Sd) (k : Int) : Int := if s.st = 6 then 70 else if k < 0 then 2 else 0
def dtickS (P : Pm) (s : Sd) (k : Int) : Sd := if s.st = 6 then s else if k < 0 then s else
  if told P.t s.dc k.toNat = true then dlatch { s with dc := tk P.t s.dc k.toNat } 100 else { s with dc := tk P.t s.dc k.toNat }
def dackE (s : Sd) : Int := if s.st = 6 then 70 else vackE s.v
def dackS (s : Sd) : Sd := if s.st = 6 then s else { s with v := vack s.v }
def rsM (s : Ms) (k : Int) : Ms := if 0 < k then arS { s with off := false, ar := false } (k - 1) else { s with off := false, ar := false }
def dresetE (mx n : Nat) (s : Sd) (k : Int) : Int := if k < 0 then 2 else opE mx n (rsM s.ms k)
def dresetS (mx n : Nat) (s : Sd) (k : Int) : Sd := if k < 0 then s else dlife { s with ms := opS mx n (rsM s.ms k) } (if opE mx n (rsM s.ms k) = 0 then 1 else 6)
end Go.Proofs.YtmleiemlfogffaaGreat
namespace Go.Proofs.YtmleiemlfogffaaGreat
set_option maxRecDepth 100000
open Go.RowKit
theorem nx_e (mx n : Nat) (z : Nat → Nat) (cut : Bool) (s : Ms) : (nx mx n z cut s).e = 0 ∨ (nx mx n z cut s).e = 70 ∨ (nx mx n z cut s).e = 80 := by
  unfold nx
  split
  · exact .inr (.inl rfl)
  · split
    · exact .inr (.inr rfl)
    · split
      · exact .inl rfl
      · exact .inr (.inl rfl)
theorem LW_rng (k c s n f len said : Int) : 0 ≤ LW k c s n f len said ∧ LW k c s n f len said ≤ 48 := by
  unfold LW
  split
  · omega
  · split
    · omega
    · split
      · omega
      · split
        · omega
        · split
          · omega
          · split <;> omega
theorem DE_rng (bs : Nat → Nat) (N : Nat) : 0 ≤ DE bs N ∧ DE bs N ≤ 48 := by
  unfold DE
  split
  · omega
  · split
    · omega
    · split
      · omega
      · exact LW_rng _ _ _ _ _ _ _
theorem dlatch_len (s : Sd) (x : Int) : (dlatch s x).L.length ≤ s.L.length + 1 := by
  unfold dlatch
  split
  · simp [dnote]
  · simp
theorem dlatch_st (s : Sd) (x : Int) : (dlatch s x).st = s.st := by unfold dlatch; split <;> rfl
theorem dlatch_ms (s : Sd) (x : Int) : (dlatch s x).ms = s.ms := by unfold dlatch; split <;> rfl
theorem dodd_len (s : Sd) : (dodd s).L.length ≤ s.L.length + 1 := by
  unfold dodd
  split
  · split
    · simp
    · split
      · exact dlatch_len _ _
      · simp [dleave]
  · omega
theorem dodd_ms (s : Sd) : (dodd s).ms = s.ms := by
  unfold dodd
  split
  · split
    · rfl
    · split
      · exact dlatch_ms _ _
      · rfl
  · rfl
theorem dodd_up {s : Sd} (h : s.st ≠ 6) : (dodd s).st ≠ 6 := by
  unfold dodd
  split
  · split
    · exact h
    · intro e; cases e
  · exact h
theorem dbegin_e (P : Pm) (mx n : Nat) (s : Sd) : 0 ≤ (dbegin P mx n s).e ∧ (dbegin P mx n s).e ≤ 200 := by
  have := nx_e mx n s.ms.bs false s.ms
  unfold dbegin
  split
  · exact ⟨by show (0 : Int) ≤ 80; omega, by show (80 : Int) ≤ 200; omega⟩
  · split
    · exact ⟨by show 0 ≤ (nx mx n s.ms.bs false s.ms).e; omega, by show (nx mx n s.ms.bs false s.ms).e ≤ 200; omega⟩
    · exact ⟨by show (0 : Int) ≤ 0; omega, by show (0 : Int) ≤ 200; omega⟩
theorem dbegin_len (P : Pm) (mx n : Nat) (s : Sd) : (dbegin P mx n s).s.L.length ≤ s.L.length + 1 := by
  unfold dbegin
  split
  · exact dlatch_len _ _
  · split
    · show s.L.length ≤ _; omega
    · show s.L.length ≤ _; omega
theorem dwish_e (P : Pm) (mx n : Nat) (s : Sd) : 0 ≤ (dwish P mx n s).e ∧ (dwish P mx n s).e ≤ 200 := by
  unfold dwish
  split
  · exact ⟨by show (0 : Int) ≤ 130; omega, by show (130 : Int) ≤ 200; omega⟩
  · split
    · exact ⟨by show (0 : Int) ≤ 130; omega, by show (130 : Int) ≤ 200; omega⟩
    · exact dbegin_e _ _ _ _
theorem dwish_len (P : Pm) (mx n : Nat) (s : Sd) : (dwish P mx n s).s.L.length ≤ s.L.length + 2 := by
  have := dodd_len s
  unfold dwish
  split
  · show (dodd s).L.length ≤ _; omega
  · split
    · show (dodd s).L.length ≤ _; omega
    · have := dbegin_len P mx n (dodd s); omega
theorem dtake_e (P : Pm) (mx n : Nat) (s : Sd) (k ss num fl len : Nat) (bs : Nat → Nat) : 0 ≤ (dtake P mx n s k ss num fl len bs).e ∧ (dtake P mx n s k ss num fl len bs).e ≤ 200 := by
  have r1 : ∀ x : Int, 0 ≤ x ∧ x ≤ 200 → 0 ≤ (drefuse P s x).e ∧ (drefuse P s x).e ≤ 200 := fun x h => h
  unfold dtake
  split
  · split
    · exact dwish_e _ _ _ _
    · exact r1 91 (by omega)
  · split
    · split
      · exact ⟨by show (0 : Int) ≤ 0; omega, by show (0 : Int) ≤ 200; omega⟩
      · exact r1 91 (by omega)
    · split
      · exact ⟨by show (0 : Int) ≤ 0; omega, by show (0 : Int) ≤ 200; omega⟩
      · split
        · exact ⟨by show (0 : Int) ≤ 0; omega, by show (0 : Int) ≤ 200; omega⟩
        · split
          · exact ⟨by show (0 : Int) ≤ 0; omega, by show (0 : Int) ≤ 200; omega⟩
          · exact r1 130 (by omega)
theorem dtake_len (P : Pm) (mx n : Nat) (s : Sd) (k ss num fl len : Nat) (bs : Nat → Nat) : (dtake P mx n s k ss num fl len bs).s.L.length ≤ s.L.length + 2 := by
  have r1 : ∀ x : Int, (drefuse P s x).s.L.length ≤ s.L.length + 2 := fun x => by have := dodd_len s; show (dodd s).L.length ≤ _; omega
  unfold dtake
  split
  · split
    · exact dwish_len _ _ _ _
    · exact r1 91
  · split
    · split
      · show (dechoS s).L.length ≤ _
        unfold dechoS
        split
        · show s.L.length ≤ _; omega
        · omega
      · exact r1 91
    · split
      · show (dstartS s).L.length ≤ _
        unfold dstartS
        split
        · show s.L.length ≤ _; omega
        · omega
      · split
        · show s.L.length ≤ _; omega
        · split
          · have := dlatch_len (don { s with nm := P.n }) 80
            have e : (don { s with nm := P.n }).L.length = s.L.length := rfl
            show (dlatch (don { s with nm := P.n }) 80).L.length ≤ _; omega
          · exact r1 130
theorem dhear_e (P : Pm) (mx n : Nat) (s : Sd) (len : Nat) (bs : Nat → Nat) : 0 ≤ (dhear P mx n s len bs).e ∧ (dhear P mx n s len bs).e ≤ 200 := by
  have := DE_rng bs len
  unfold dhear
  split
  · exact ⟨by show 0 ≤ DE bs len; omega, by show DE bs len ≤ 200; omega⟩
  · split
    · exact ⟨by show (0 : Int) ≤ 43; omega, by show (43 : Int) ≤ 200; omega⟩
    · split
      · exact ⟨by show (0 : Int) ≤ 44; omega, by show (44 : Int) ≤ 200; omega⟩
      · exact dtake_e _ _ _ _ _ _ _ _ _ _
theorem dhear_len (P : Pm) (mx n : Nat) (s : Sd) (len : Nat) (bs : Nat → Nat) : (dhear P mx n s len bs).s.L.length ≤ s.L.length + 2 := by
  unfold dhear
  split
  · show s.L.length ≤ _; omega
  · split
    · show s.L.length ≤ _; omega
    · split
      · show s.L.length ≤ _; omega
      · exact dtake_len _ _ _ _ _ _ _ _ _ _
end Go.Proofs.YtmleiemlfogffaaGreat
namespace Go.Proofs.YtmleiemlfogffaaGreat
set_option maxRecDepth 100000
open Go.RowKit
def MtC (t : Int) (p : Option Addr) (f : Int) (o : Int) (r : Option Addr) : Array Value := #[.int .u64 t, .pointer p, .int .u32 f, .int .u32 o, .pointer r]
structure Met (w : World) (b : Nat) (t : Int) (p : Option Addr) (f : Int) (o : Int) (r : Option Addr) : Prop where
  at_ : w.heap[b]? = some (.cells (MtC t p f o r) 199 (0, 0))
theorem Met.lt {w : World} {b : Nat} {t f o : Int} {p r : Option Addr} (h : Met w b t p f o r) : b < w.heap.size := (Array.getElem?_eq_some_iff.1 h.at_).1
theorem Met.c0 {w : World} {b : Nat} {t f o : Int} {p r : Option Addr} (h : Met w b t p f o r) : w.cell? ⟨b, 0, none⟩ = some (.int .u64 t) := cell_of_row w b 0 _ _ _ h.at_
theorem Met.c1 {w : World} {b : Nat} {t f o : Int} {p r : Option Addr} (h : Met w b t p f o r) : w.cell? ⟨b, 1, none⟩ = some (.pointer p) := cell_of_row w b 1 _ _ _ h.at_
theorem Met.c2 {w : World} {b : Nat} {t f o : Int} {p r : Option Addr} (h : Met w b t p f o r) : w.cell? ⟨b, 2, none⟩ = some (.int .u32 f) := cell_of_row w b 2 _ _ _ h.at_
theorem Met.c3 {w : World} {b : Nat} {t f o : Int} {p r : Option Addr} (h : Met w b t p f o r) : w.cell? ⟨b, 3, none⟩ = some (.int .u32 o) := cell_of_row w b 3 _ _ _ h.at_
theorem Met.c4 {w : World} {b : Nat} {t f o : Int} {p r : Option Addr} (h : Met w b t p f o r) : w.cell? ⟨b, 4, none⟩ = some (.pointer r) := cell_of_row w b 4 _ _ _ h.at_
theorem Met.fz {w : World} {b : Nat} {t f o : Int} {p r : Option Addr} (h : Met w b t p f o r) (j : Nat) : w.frozen? ⟨b, j, none⟩ = false := frozen_of_row w b j _ _ h.at_
theorem Met.off {l : List Nat} {w w' : World} {b : Nat} {t f o : Int} {p r : Option Addr} (h : Met w b t p f o r) (k : Off l w w') (hb : b ∉ l) : Met w' b t p f o r := ⟨(k.block b h.lt hb).trans h.at_⟩
theorem Met.s0 {w : World} {b : Nat} {t f o : Int} {p r : Option Addr} (h : Met w b t p f o r) (t' : Int) : Met (w.setCell ⟨b, 0, none⟩ (.int .u64 t')) b t' p f o r := ⟨heap_setCell_same _ _ _ _ _ _ h.at_⟩
theorem Met.s1 {w : World} {b : Nat} {t f o : Int} {p r : Option Addr} (h : Met w b t p f o r) (p' : Option Addr) : Met (w.setCell ⟨b, 1, none⟩ (.pointer p')) b t p' f o r := ⟨heap_setCell_same _ _ _ _ _ _ h.at_⟩
theorem Met.s2 {w : World} {b : Nat} {t f o : Int} {p r : Option Addr} (h : Met w b t p f o r) (f' : Int) : Met (w.setCell ⟨b, 2, none⟩ (.int .u32 f')) b t p f' o r := ⟨heap_setCell_same _ _ _ _ _ _ h.at_⟩
theorem Met.s3 {w : World} {b : Nat} {t f o : Int} {p r : Option Addr} (h : Met w b t p f o r) (o' : Int) : Met (w.setCell ⟨b, 3, none⟩ (.int .u32 o')) b t p f o' r := ⟨heap_setCell_same _ _ _ _ _ _ h.at_⟩
theorem Met.s4 {w : World} {b : Nat} {t f o : Int} {p r : Option Addr} (h : Met w b t p f o r) (r' : Option Addr) : Met (w.setCell ⟨b, 4, none⟩ (.pointer r')) b t p f o r' := ⟨heap_setCell_same _ _ _ _ _ _ h.at_⟩
inductive Pk (M : Nat) (w : World) : Option Addr → Option Int → Prop where
  | none : Pk M w none none
  | some (c : Nat) (v : Int) (h : M ≤ c) (hc : w.heap[c]? = some (.cells #[.int .i64 v] 2 (0, 0))) : Pk M w (some ⟨c, 0, Option.none⟩) (some v)
theorem Pk.off {M : Nat} {l : List Nat} {w w' : World} {p : Option Addr} {q : Option Int} (h : Pk M w p q) (k : Off l w w') (hl : ∀ x, x ∈ l → x < M) : Pk M w' p q := by
  cases h with
  | none => exact .none
  | some c v h hc => exact .some c v h ((k.block c (Array.getElem?_eq_some_iff.1 hc).1 (fun hm => by have := hl c hm; omega)).trans hc)
def sat (a b : Nat) : Nat := if 18446744073709551615 - a < b then 18446744073709551615 else a + b
theorem new_any (w : World) :
    Calls Tryz.prog 76 #[] w fun e w' => e = .returned (.pointer (some ⟨w.heap.size, 0, none⟩)) ∧ w' = w.alloc (.cells (MtC 0 none 0 0 none) 199) := by
  go_enter Tryz.func76, Tryz.ntmps76
  go_wp2
  go_ret
  exact ⟨rfl, rfl⟩
theorem new_met (w : World) : Met (w.alloc (.cells (MtC 0 none 0 0 none) 199)) w.heap.size 0 none 0 0 none := ⟨heap_alloc_new w _⟩
theorem sumOf_any (a b : Nat) (w : World) (ha : a < 18446744073709551616) (hb : b < 18446744073709551616) :
    Calls Tryz.prog 175 #[.int .u64 a, .int .u64 b] w fun e w' => e = .returned (.int .u64 (sat a b : Nat)) ∧ w' = w := by
  have h1 : IntKind.u64.wrap (18446744073709551615 - (a : Int)) = ((18446744073709551615 - a : Nat) : Int) := by rw [IntKind.wrap_u64]; omega
  by_cases hc : 18446744073709551615 - a < b
  · have e : sat a b = 18446744073709551615 := by unfold sat; rw [if_pos hc]
    rw [e]
    go_enter Tryz.func175, Tryz.ntmps175
    go_wp2
    go_ret
    exact ⟨rfl, rfl⟩
  · have e : sat a b = a + b := by unfold sat; rw [if_neg hc]
    rw [e]
    have h2 : IntKind.u64.wrap ((a : Int) + (b : Int)) = ((a + b : Nat) : Int) := by rw [IntKind.wrap_u64]; omega
    go_enter Tryz.func175, Tryz.ntmps175
    go_wp2
    go_ret
    refine ⟨?_, rfl⟩
    first | rfl | (rw [h2]) | simp_all
theorem add_any (t n b : Nat) (p r : Option Addr) (f o : Int) (w : World) (ht : t < 18446744073709551616) (hn : n < 18446744073709551616) (h : Met w b t p f o r) :
    Calls Tryz.prog 139 #[.pointer (some ⟨b, 0, none⟩), .int .u64 n] w fun e w' => e = .returned (.tuple #[.int .u64 (sat t n : Nat), .int .i64 0]) ∧ w' = w.setCell ⟨b, 0, none⟩ (.int .u64 (sat t n : Nat)) := by
  have h0 := h.c0
  have hz := h.fz 0
  have hl := u64_load _ _ w h0
  have hs := sumOf_any t n w ht hn
  have hc := u64_cas ⟨b, 0, none⟩ t (sat t n : Nat) w h0 hz
  generalize sat t n = s at *
  go_enter Tryz.func139, Tryz.ntmps139
  go_wp2_with fail
  refine wp_loop_once ?_
  go_wp2_with (first | (go_at_call 129; refine hl.mono ?_; rintro e w' ⟨rfl, rfl⟩) | (go_at_call 175; refine hs.mono ?_; rintro e w' ⟨rfl, rfl⟩) | (go_at_call 176; refine hc.mono ?_; rintro e w' ⟨rfl, rfl⟩))
  go_ret2
  exact ⟨rfl, rfl⟩
theorem total_any (t : Int) (b : Nat) (p r : Option Addr) (f o : Int) (w : World) (h : Met w b t p f o r) :
    Calls Tryz.prog 100 #[.pointer (some ⟨b, 0, none⟩)] w fun e w' => e = .returned (.int .u64 t) ∧ w' = w := by
  have hl := u64_load _ _ w h.c0
  go_enter Tryz.func100, Tryz.ntmps100
  go_wp2_with (go_at_call 129; refine hl.mono ?_; rintro e w' ⟨rfl, rfl⟩)
  go_ret
  exact ⟨rfl, rfl⟩
end Go.Proofs.YtmleiemlfogffaaGreat
namespace Go.Proofs.YtmleiemlfogffaaGreat
set_option maxRecDepth 100000
open Go.RowKit Go.Maps
def rdP : Value → Option (DataW Unit × List MemPlace)
  | .pointer none => some (.lit (.int .i64 (-1)), [])
  | .pointer (some ⟨k, 0, none⟩) => some (.lit (.int .i64 k), [])
  | _ => none
def dat : Option Nat → DataW Unit
  | none => .lit (.int .i64 (-1))
  | some k => .lit (.int .i64 k)
def ptr : Option Nat → Value
  | none => .pointer none
  | some k => .pointer (some ⟨k, 0, none⟩)
theorem rdP_ptr (o : Option Nat) : rdP (ptr o) = some (dat o, []) := by cases o <;> rfl
theorem dat_inj {o o' : Option Nat} (h : dat o = dat o') : o = o' := by
  cases o <;> cases o' <;> simp [dat] at h ⊢
  · omega
theorem rdP_inv {v : Value} {o : Option Nat} {ps : List MemPlace} (h : rdP v = some (dat o, ps)) : v = ptr o := by
  unfold rdP at h
  split at h
  · simp only [Option.some.injEq, Prod.mk.injEq] at h
    have := dat_inj (o := none) (o' := o) h.1
    subst this; rfl
  · rename_i k
    simp only [Option.some.injEq, Prod.mk.injEq] at h
    have := dat_inj (o := some k) (o' := o) h.1
    subst this; rfl
  · cases h
def DB (w : World) (b mA mb : Nat) (L : List R4) : Prop :=
  ∃ cur : Array Value, w.heap[b]? = some (.cells cur 143 (0, 0)) ∧ cur.size = 66 ∧ cur[0]? = some (.pointer (some ⟨mA, 0, none⟩)) ∧ cur[1]? = some (.map (some mb)) ∧
    ∀ i (h : i < L.length), L.length ≤ i + 16 → ∀ f, f < 4 → cur[2 + i % 16 * 4 + f]? = (rv L[i])[f]?
theorem cell_at {w : World} {b i : Nat} {cur : Array Value} {t : TypeId} {fr : Nat × Nat} {v : Value} (h : w.heap[b]? = some (.cells cur t fr)) (hv : cur[i]? = some v) : w.cell? ⟨b, i, none⟩ = some v := by
  simp [World.cell?, h, hv]
theorem DB.lt {w : World} {b mA mb : Nat} {L : List R4} (h : DB w b mA mb L) : b < w.heap.size := by
  obtain ⟨cur, h, _⟩ := h; exact (Array.getElem?_eq_some_iff.1 h).1
theorem DB.c0 {w : World} {b mA mb : Nat} {L : List R4} (h : DB w b mA mb L) : w.cell? ⟨b, 0, none⟩ = some (.pointer (some ⟨mA, 0, none⟩)) := by
  obtain ⟨cur, h, _, h0, _⟩ := h; exact cell_at h h0
theorem DB.c1 {w : World} {b mA mb : Nat} {L : List R4} (h : DB w b mA mb L) : w.cell? ⟨b, 1, none⟩ = some (.map (some mb)) := by
  obtain ⟨cur, h, _, _, h1, _⟩ := h; exact cell_at h h1
theorem DB.fz {w : World} {b mA mb : Nat} {L : List R4} (h : DB w b mA mb L) (j : Nat) : w.frozen? ⟨b, j, none⟩ = false := by
  obtain ⟨cur, h, _⟩ := h; exact frozen_of_row w b j _ _ h
theorem DB.off {l : List Nat} {w w' : World} {b mA mb : Nat} {L : List R4} (h : DB w b mA mb L) (k : Off l w w') (hb : b ∉ l) : DB w' b mA mb L := by
  have hl := h.lt
  obtain ⟨cur, h, r⟩ := h; exact ⟨cur, (k.block b hl hb).trans h, r⟩
theorem DB.some {w : World} {b mA mb : Nat} {L : List R4} (h : DB w b mA mb L) (j : Nat) (hj : j < 66) : ∃ v, w.cell? ⟨b, j, none⟩ = .some v := by
  obtain ⟨cur, h, hs, _⟩ := h
  exact ⟨cur[j], cell_at h (Array.getElem?_eq_getElem (by omega))⟩
theorem DB.rec {w : World} {b mA mb : Nat} {L : List R4} (h : DB w b mA mb L) (i : Nat) (hi : i < L.length) (h16 : L.length ≤ i + 16) :
    w.cell? ⟨b, 2 + i % 16 * 4, none⟩ = .some (.int .i64 L[i].1) ∧ w.cell? ⟨b, 2 + i % 16 * 4 + 1, none⟩ = .some (.int .i64 L[i].2.1) ∧ w.cell? ⟨b, 2 + i % 16 * 4 + 2, none⟩ = .some (.int .u32 L[i].2.2.1) ∧ w.cell? ⟨b, 2 + i % 16 * 4 + 3, none⟩ = .some (.int .u32 L[i].2.2.2) := by
  obtain ⟨cur, h, _, _, _, hr⟩ := h
  have hr := hr i hi h16
  exact ⟨cell_at h (hr 0 (by omega)), cell_at h (hr 1 (by omega)), cell_at h (hr 2 (by omega)), cell_at h (hr 3 (by omega))⟩
theorem DB.put {w : World} {b mA mb : Nat} {L : List R4} (h : DB w b mA mb L) (x : R4) :
    DB ((((w.setCell ⟨b, 2 + L.length % 16 * 4, none⟩ (.int .i64 x.1)).setCell ⟨b, 2 + L.length % 16 * 4 + 1, none⟩ (.int .i64 x.2.1)).setCell ⟨b, 2 + L.length % 16 * 4 + 2, none⟩ (.int .u32 x.2.2.1)).setCell ⟨b, 2 + L.length % 16 * 4 + 3, none⟩ (.int .u32 x.2.2.2)) b mA mb (L ++ [x]) := by
  obtain ⟨cur, h, hs, h0, h1, hr⟩ := h
  refine ⟨_, heap_setCell_same _ _ _ _ _ _ (heap_setCell_same _ _ _ _ _ _ (heap_setCell_same _ _ _ _ _ _ (heap_setCell_same _ _ _ _ _ _ h))), ?_, ?_, ?_, ?_⟩
  · simp [hs]
  · simp only [Array.getElem?_setIfInBounds]
    rw [if_neg (by omega), if_neg (by omega), if_neg (by omega), if_neg (by omega)]; exact h0
  · simp only [Array.getElem?_setIfInBounds]
    rw [if_neg (by omega), if_neg (by omega), if_neg (by omega), if_neg (by omega)]; exact h1
  · intro i hi h16 f hf
    simp only [List.length_append, List.length_cons, List.length_nil] at hi h16
    simp only [Array.getElem?_setIfInBounds, Array.size_setIfInBounds]
    by_cases hl : i < L.length
    · rw [List.getElem_append_left hl, if_neg (by omega), if_neg (by omega), if_neg (by omega), if_neg (by omega)]
      exact hr i hl (by omega) f hf
    · have e : i = L.length := by omega
      subst e
      have hx : (L ++ [x])[L.length]'(by simp) = x := by simp
      rw [hx]
      have c : f = 0 ∨ f = 1 ∨ f = 2 ∨ f = 3 := by omega
      rcases c with rfl | rfl | rfl | rfl
      · rw [if_neg (by omega), if_neg (by omega), if_neg (by omega), if_pos (by omega), if_pos (by omega)]; rfl
      · rw [if_neg (by omega), if_neg (by omega), if_pos (by omega), if_pos (by omega)]; rfl
      · rw [if_neg (by omega), if_pos (by omega), if_pos (by omega)]; rfl
      · rw [if_pos (by omega), if_pos (by omega)]; rfl
structure DH (w : World) (b : Nat) (U : List Nat) (L : List R4) (mA mb nn : Nat) (D : DataW Unit) (mt : Int → Option Nat) : Prop where
  blk : DB w b mA mb L
  all : Met w mA (L.length : Nat) none 0 0 none
  map : w.ownsMap Tryz.prog 29 rdP mb nn D
  nle : nn ≤ L.length
  at_ : ∀ c, (Lit.int .i64 c).wf = true → D.atKey (.int .i64 c) (dat none) = dat (mt c)
  has_ : ∀ c, has D (.int .i64 c) = decide (0 < cnt L c)
  no : ∀ c, mt c = none → cnt L c = 0
  yes : ∀ c k, mt c = some k → Met w k (cnt L c : Nat) none 0 0 none ∧ 0 < cnt L c ∧ k ∈ U ∧ k ≠ b ∧ k ≠ mA ∧ k ≠ mb
  one : ∀ c c' k, mt c = some k → mt c' = some k → c = c'
  bU : b ∈ U
  aU : mA ∈ U
  mU : mb ∈ U
  ba : b ≠ mA
  bm : b ≠ mb
  am : mA ≠ mb
  ult : ∀ k, k ∈ U → k < w.heap.size
  nmb : Nmb L
def DG (w : World) (b : Nat) (U : List Nat) (L : List R4) : Prop := ∃ mA mb nn D mt, DH w b U L mA mb nn D mt
theorem ownsMap_off {l : List Nat} {w w' : World} {P : Program} {k : TypeId} {R : Value → Option (DataW Unit × List MemPlace)} {b n : Nat} {D : DataW Unit} (h : w.ownsMap P k R b n D) (ho : Off l w w') (hb : b ∉ l) : w'.ownsMap P k R b n D := by
  have hlt := h.lt
  obtain ⟨es, clock, hb', F, hs, hD⟩ := h
  exact ⟨es, clock, (ho.block b hlt hb).trans hb', F, hs, hD⟩
theorem DH.off {l : List Nat} {w w' : World} {b : Nat} {U : List Nat} {L : List R4} {mA mb nn : Nat} {D : DataW Unit} {mt : Int → Option Nat} (h : DH w b U L mA mb nn D mt) (ho : Off l w w') (hl : ∀ k, k ∈ U → k ∉ l) : DH w' b U L mA mb nn D mt where
  blk := h.blk.off ho (hl _ h.bU)
  all := h.all.off ho (hl _ h.aU)
  map := ownsMap_off h.map ho (hl _ h.mU)
  nle := h.nle
  at_ := h.at_
  has_ := h.has_
  no := h.no
  yes := fun c k hk => by obtain ⟨h1, h2, h3, h4⟩ := h.yes c k hk; exact ⟨h1.off ho (hl _ h3), h2, h3, h4⟩
  one := h.one
  bU := h.bU
  aU := h.aU
  mU := h.mU
  ba := h.ba
  bm := h.bm
  am := h.am
  ult := fun k hk => Nat.lt_of_lt_of_le (h.ult k hk) ho.size
  nmb := h.nmb
theorem DG.off {l : List Nat} {w w' : World} {b : Nat} {U : List Nat} {L : List R4} (h : DG w b U L) (ho : Off l w w') (hl : ∀ k, k ∈ U → k ∉ l) : DG w' b U L := by
  obtain ⟨mA, mb, nn, D, mt, h⟩ := h; exact ⟨mA, mb, nn, D, mt, h.off ho hl⟩
theorem DG.below {w w' : World} {b : Nat} {U : List Nat} {L : List R4} (h : DG w b U L) (ho : Below w.heap.size w w') : DG w' b U L := h.off (l := []) (Off.of_below ho) (fun _ _ => by simp)
theorem zero_ptr (w : World) : (zeroValue 136).run Tryz.prog w = .ok (.pointer none) w := by kernel_rfl
theorem key_i64 : Keyed Tryz.prog 29 := int_keyed Tryz.underlying29
theorem placeOf_any (n p : Nat) (w : World) (hp : p = n % 16) (hn : n < 1000000) : Calls Tryz.prog 99 #[.int .i64 ((n + 1 : Nat) : Int)] w fun e w' => e = .returned (.int .i64 (p : Int)) ∧ w' = w := by
  have h1 : IntKind.i64.wrap (((n + 1 : Nat) : Int) - 1) = (n : Int) := by rw [IntKind.wrap_i64]; omega
  go_enter Tryz.func99, Tryz.ntmps99
  go_wp2
  go_ret
  refine ⟨?_, rfl⟩
  show Ending.returned (Value.int IntKind.i64 ((n : Int) % 16)) = _
  rw [show ((n : Int) % 16) = (p : Int) from by omega]
theorem dtotal_any (b : Nat) (U : List Nat) (L : List R4) (w : World) (h : DG w b U L) (hn : L.length < 1000000) : Calls Tryz.prog 60 #[.pointer (some ⟨b, 0, none⟩)] w fun e w' => e = .returned (.int .i64 (L.length : Nat)) ∧ w' = w := by
  obtain ⟨mA, mb, nn, D, mt, h⟩ := h
  have h0 := h.blk.c0
  have ht := total_any (L.length : Nat) mA none none 0 0 w h.all
  have h1 : IntKind.i64.wrap ((L.length : Nat) : Int) = (L.length : Int) := by rw [IntKind.wrap_i64]; omega
  go_enter Tryz.func60, Tryz.ntmps60
  go_wp2_with (go_at_call 100; refine ht.mono ?_; rintro e w' ⟨rfl, rfl⟩)
  go_ret
  exact ⟨rfl, rfl⟩
end Go.Proofs.YtmleiemlfogffaaGreat
namespace Go.Proofs.YtmleiemlfogffaaGreat
set_option maxRecDepth 100000
open Go.RowKit Go.Maps
def zD : Array Value := #[.pointer none, .map none] ++ #[.int .i64 0, .int .i64 0, .int .u32 0, .int .u32 0, .int .i64 0, .int .i64 0, .int .u32 0, .int .u32 0, .int .i64 0, .int .i64 0, .int .u32 0, .int .u32 0, .int .i64 0, .int .i64 0, .int .u32 0, .int .u32 0, .int .i64 0, .int .i64 0, .int .u32 0, .int .u32 0, .int .i64 0, .int .i64 0, .int .u32 0, .int .u32 0, .int .i64 0, .int .i64 0, .int .u32 0, .int .u32 0, .int .i64 0, .int .i64 0, .int .u32 0, .int .u32 0, .int .i64 0, .int .i64 0, .int .u32 0, .int .u32 0, .int .i64 0, .int .i64 0, .int .u32 0, .int .u32 0, .int .i64 0, .int .i64 0, .int .u32 0, .int .u32 0, .int .i64 0, .int .i64 0, .int .u32 0, .int .u32 0, .int .i64 0, .int .i64 0, .int .u32 0, .int .u32 0, .int .i64 0, .int .i64 0, .int .u32 0, .int .u32 0, .int .i64 0, .int .i64 0, .int .u32 0, .int .u32 0, .int .i64 0, .int .i64 0, .int .u32 0, .int .u32 0]
theorem zD_v (w : World) : (zeroValue 143).run Tryz.prog w = .ok (.agg zD) w := by kernel_rfl
theorem zD_size : zD.size = 66 := by kernel_rfl
theorem zD_ne : (zD = #[]) = False := by
  refine eq_false fun h => ?_
  have := congrArg Array.size h
  rw [zD_size] at this
  simp at this
theorem zD_two : (zD.size < 2) = False := by rw [zD_size]; simp
set_option maxRecDepth 100000 in
theorem dnew_any (w : World) : Calls Tryz.prog 37 #[] w fun e w' => e = .returned (.pointer (some ⟨w.heap.size + 2, 0, none⟩)) ∧ Hid (Below w.heap.size w w' ∧ w'.heap.size = w.heap.size + 3 ∧ DG w' (w.heap.size + 2) [w.heap.size, w.heap.size + 1, w.heap.size + 2] []) := by
  have hmk := @run_makeMap Tryz.prog
  have hz := zD_v
  have hz1 := zD_ne
  have hz2 := zD_two
  go_enter Tryz.func37, Tryz.ntmps37
  go_wp2_with (go_at_call 76; refine (new_any _).mono ?_; rintro e w' ⟨rfl, rfl⟩)
  go_ret
  refine ⟨rfl, ?_⟩
  generalize hw1 : w.alloc (Obj.cells (MtC 0 none 0 0 none) 199) = w1
  generalize hw2 : w1.alloc (Obj.map #[] 0) = w2
  have s1 : w1.heap.size = w.heap.size + 1 := by rw [← hw1]; simp
  have s2 : w2.heap.size = w.heap.size + 2 := by rw [← hw2]; simp [s1]
  have o1 : Off [] w w1 := hw1 ▸ Off.alloc [] w _
  have o2 : Off [] w1 w2 := hw2 ▸ Off.alloc [] w1 _
  have o3 : ∀ o, Off [] w2 (w2.alloc o) := fun o => Off.alloc [] w2 o
  have m1 : Met w1 w.heap.size 0 none 0 0 none := hw1 ▸ new_met w
  have m2 : w2.ownsMap Tryz.prog 29 rdP (w.heap.size + 1) 0 (.map []) := by
    have := World.ownsMap_made w1 Tryz.prog 29 rdP
    rw [hw2, s1] at this
    exact this
  clear hz hz1 hz2 hmk
  refine ⟨?_, ?_, ?_⟩
  · have := (o1.trans o2).trans (o3 (Obj.cells ((zD.setIfInBounds 0 (Value.pointer (some ⟨w.heap.size, 0, none⟩))).setIfInBounds 1 (Value.map (some (w.heap.size + 1)))) 143))
    exact this.below (Below.refl _ _) (by simp) (Nat.le_refl _)
  · simp [s2]
  · generalize hcs : (zD.setIfInBounds 0 (Value.pointer (some ⟨w.heap.size, 0, none⟩))).setIfInBounds 1 (Value.map (some (w.heap.size + 1))) = cs
    have hsz : cs.size = 66 := by rw [← hcs]; simp [zD_size]
    have h0 : cs[0]? = some (Value.pointer (some ⟨w.heap.size, 0, none⟩)) := by rw [← hcs]; simp [zD_size]
    have h1 : cs[1]? = some (Value.map (some (w.heap.size + 1))) := by rw [← hcs]; simp [zD_size]
    have hb : (w2.alloc (Obj.cells cs 143)).heap[w.heap.size + 2]? = some (.cells cs 143 (0, 0)) := by
      have := heap_alloc_new w2 (Obj.cells cs 143)
      rw [s2] at this
      exact this
    refine ⟨w.heap.size, w.heap.size + 1, 0, .map [], fun _ => none, ⟨⟨cs, hb, hsz, h0, h1, fun i h => by simp at h⟩, (m1.off o2 (by simp)).off (o3 _) (by simp), ownsMap_off m2 (o3 _) (by simp), Nat.le_refl _, fun c _ => rfl, fun c => rfl, fun c _ => rfl, fun c k h => (by cases h), fun c c' k h => (by cases h), by simp, by simp, by simp, by omega, by omega, by omega, ?_, Nmb.nil⟩⟩
    intro k hk
    simp at hk
    simp [s2]
    omega
set_option maxRecDepth 100000 in
theorem meterOf_old (b mb : Nat) (c : Int) (k : Nat) (w : World) (h1 : w.cell? ⟨b, 1, none⟩ = some (.map (some mb)))
    (hk : (Instr.lookup 138 (.map (some mb)) (.int .i64 c) false).run Tryz.prog w = .ok (.pointer (some ⟨k, 0, none⟩)) w) :
    Calls Tryz.prog 140 #[.pointer (some ⟨b, 0, none⟩), .int .i64 c] w fun e w' => e = .returned (.pointer (some ⟨k, 0, none⟩)) ∧ w' = w := by
  go_enter Tryz.func140, Tryz.ntmps140
  go_wp2_with fail
  go_ret
  exact ⟨rfl, rfl⟩
set_option maxRecDepth 100000 in
theorem meterOf_new (b mb nn : Nat) (D : DataW Unit) (c : Int) (w : World) (h1 : w.cell? ⟨b, 1, none⟩ = some (.map (some mb))) (hlt : b < w.heap.size)
    (hk : (Instr.lookup 138 (.map (some mb)) (.int .i64 c) false).run Tryz.prog w = .ok (.pointer none) w) (hmap : w.ownsMap Tryz.prog 29 rdP mb nn D) (hc : (Lit.int .i64 c).wf = true) (hn : nn < 1000000) :
    Calls Tryz.prog 140 #[.pointer (some ⟨b, 0, none⟩), .int .i64 c] w fun e w' => e = .returned (.pointer (some ⟨w.heap.size, 0, none⟩)) ∧ Hid (Off [mb] w w' ∧ Met w' w.heap.size 0 none 0 0 none ∧ w'.ownsMap Tryz.prog 29 rdP mb (nn + 1) (D.put (.int .i64 c) (dat (some w.heap.size)))) := by
  have h1' : (w.alloc (.cells (MtC 0 none 0 0 none) 199)).cell? ⟨b, 1, none⟩ = some (.map (some mb)) := (World.cell?_of_block ((Off.alloc [] w _).block b hlt (by simp))).trans h1
  have hmm : (w.alloc (.cells (MtC 0 none 0 0 none) 199)).ownsMap Tryz.prog 29 rdP mb nn D := ownsMap_off hmap (Off.alloc [] w _) (by simp)
  have hnn : nn < maxLen := by unfold maxLen; omega
  obtain ⟨w2, hrun, hown, hg⟩ := hmm.update key_i64 Tryz.underlying138 hnn (keyOf_int_mk Tryz.underlying29 hc) (rdP_ptr (some w.heap.size))
  change (Instr.mapUpdate 138 (.map (some mb)) (.int .i64 c) (.pointer (some ⟨w.heap.size, 0, none⟩))).run Tryz.prog (w.alloc (.cells (MtC 0 none 0 0 none) 199)) = .ok () w2 at hrun
  have hmb : mb < w.heap.size := hmap.lt
  have hO : Hid (Off [mb] w w2 ∧ Met w2 w.heap.size 0 none 0 0 none ∧ w2.ownsMap Tryz.prog 29 rdP mb (nn + 1) (D.put (.int .i64 c) (dat (some w.heap.size)))) := by
    have o1 : Off [mb] w (w.alloc (.cells (MtC 0 none 0 0 none) 199)) := Off.alloc [mb] w _
    have o2 : Off [mb] (w.alloc (.cells (MtC 0 none 0 0 none) 199)) w2 := ⟨hg.os, hg.tape, hg.output, hg.size, fun k hk hb => hg.block k hk (by simp at hb; simp; exact hb)⟩
    exact ⟨o1.trans o2, (new_met w).off o2 (by simp; omega), hown⟩
  clear hg hown hmm hmap
  go_enter Tryz.func140, Tryz.ntmps140
  go_wp2_with (go_at_call 76; refine (new_any _).mono ?_; rintro e w' ⟨rfl, rfl⟩)
  go_ret
  exact ⟨rfl, hO⟩
end Go.Proofs.YtmleiemlfogffaaGreat
