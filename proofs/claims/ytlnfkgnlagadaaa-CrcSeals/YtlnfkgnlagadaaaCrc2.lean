/- More of package crc without tables, and the reference's answers: sealed lists, joined checks. -/
import Derived.Test.YtlnfkgnlagadaaaCrc
namespace Go.Proofs.Ytlnfkgnlagadaaa
open Go.RowKit

theorem powG (n : Nat) (w : World) (hn : n < 18446744073709551616) :
    Calls Try.prog 49 #[.int .u64 n, .int .u64 4812730177] w fun e w' => e = .returned (.tuple #[.int .u64 (PM.R PM.g 32 (2 ^ n) : Nat), .int .i64 0]) ∧ w' = w := by
  have h := powMod_any n 4812730177 w hn (by decide) (by decide)
  rw [log2_g] at h
  exact h
theorem mulG (p q : Nat) (w : World) (hp : p < 18446744073709551616) (hq : q < 18446744073709551616) :
    Calls Try.prog 37 #[.int .u64 p, .int .u64 q, .int .u64 4812730177] w fun e w' => e = .returned (.tuple #[.int .u64 (PM.R PM.g 32 (PM.C p q) : Nat), .int .i64 0]) ∧ w' = w := by
  have h := mulMod_any p q 4812730177 w hp hq (by decide) (by decide)
  rw [log2_g] at h
  exact h
theorem RG_lt (n : Nat) : PM.R PM.g 32 n < 4294967296 := PM.R_lt PM.degG n
set_option maxHeartbeats 400000 in
theorem timesBytes_any (n : Nat) (w : World) (hn : n < 9223372036854775808) :
    Calls Try.prog 38 #[.int .i64 n] w fun e w' => e = .returned (.int .u64 (PM.R PM.g 32 (2 ^ (8 * n)) : Nat)) ∧ w' = w := by
  have hn2 : n < 18446744073709551616 := by omega
  go_enter Try.func38, Try.ntmps38
  go_wp2_with (go_at_call 49; refine (powG n _ hn2).mono ?_; rintro e w' ⟨rfl, rfl⟩)
  go_loop [3, 11] (fun s c => ∃ i : Nat, i ≤ 3 ∧ c = .int .i64 i ∧ s = .int .u64 (PM.R PM.g 32 (2 ^ (n * 2 ^ i)) : Nat)) (fun _ c => 3 - (intOf c).toNat)
  case atStart => exact ⟨0, by omega, rfl, by rw [Nat.pow_zero, Nat.mul_one]⟩
  case round =>
    obtain ⟨i, hi, rfl, rfl⟩ := hrel
    by_cases hlt : i < 3
    · have hr := RG_lt (2 ^ (n * 2 ^ i))
      have HS : Hid (PM.R PM.g 32 (PM.C (PM.R PM.g 32 (2 ^ (n * 2 ^ i))) (PM.R PM.g 32 (2 ^ (n * 2 ^ i)))) = PM.R PM.g 32 (2 ^ (n * 2 ^ (i + 1)))) := PM.sq3 n i
      generalize PM.R PM.g 32 (2 ^ (n * 2 ^ i)) = r at *
      go_wp2_with (go_at_call 37; refine (mulG r r _ (by omega) (by omega)).mono ?_; rintro e w' ⟨rfl, rfl⟩)
      go_round
      case rel => exact ⟨i + 1, by omega, by go_num, by rw [HS.out]⟩
      case measure => simp [intOf] <;> omega
    · go_wp2
      go_ret
      exact ⟨by rw [show i = 3 by omega, show n * 2 ^ 3 = 8 * n by omega]; rfl, rfl⟩
set_option maxHeartbeats 400000 in
theorem join_neg (a b : Nat) (n : Int) (w : World) (hn : n < 0) :
    Calls Try.prog 24 #[.int .u32 a, .int .u32 b, .int .i64 n] w fun e w' => e = .returned (.tuple #[.int .u32 0, .int .i64 2]) ∧ w' = w := by
  go_enter Try.func24, Try.ntmps24
  go_wp2
  go_ret2
  exact ⟨rfl, rfl⟩
set_option maxHeartbeats 400000 in
theorem join_any (a b n : Nat) (w : World) (ha : a < 4294967296) (hb : b < 4294967296) (hn : n < 9223372036854775808) :
    Calls Try.prog 24 #[.int .u32 a, .int .u32 b, .int .i64 n] w fun e w' => e = .returned (.tuple #[.int .u32 (PM.R PM.g 32 (PM.C a (2 ^ (8 * n))) ^^^ b : Nat), .int .i64 0]) ∧ w' = w := by
  have hr := RG_lt (2 ^ (8 * n))
  have hs := RG_lt (PM.C a (PM.R PM.g 32 (2 ^ (8 * n))))
  have HM : Hid (PM.R PM.g 32 (PM.C a (PM.R PM.g 32 (2 ^ (8 * n)))) = PM.R PM.g 32 (PM.C a (2 ^ (8 * n)))) := PM.R_C_right PM.degG _ _
  have hT := fun w => timesBytes_any n w hn
  generalize PM.R PM.g 32 (2 ^ (8 * n)) = r at *
  have hX := xor32 _ b hs hb
  have hM := fun w => mulG a r w (by omega) (by omega)
  generalize PM.R PM.g 32 (PM.C a r) = s at *
  go_enter Try.func24, Try.ntmps24
  go_wp2_with (first | (go_at_call 38; refine (hT _).mono ?_; rintro e w' ⟨rfl, rfl⟩) | (go_at_call 37; refine (hM _).mono ?_; rintro e w' ⟨rfl, rfl⟩))
  go_ret2
  exact ⟨by rw [← HM.out]; rfl, rfl⟩
theorem refPowG (n : Nat) (w : World) (hn : n < 18446744073709551616) :
    Calls Try.prog 39 #[.int .u64 n, .int .u64 4812730177] w fun e w' => e = .returned (.tuple #[.int .u64 (PM.R PM.g 32 (2 ^ n) : Nat), .int .i64 0]) ∧ Grew w w' := by
  have h := refPowMod_any 4812730177 (by decide) (by decide) 64 n w (by omega) hn
  rw [log2_g] at h
  exact h
theorem refMulG (p q : Nat) (w : World) (hp : p < 18446744073709551616) (hq : q < 18446744073709551616) :
    Calls Try.prog 40 #[.int .u64 p, .int .u64 q, .int .u64 4812730177] w fun e w' => e = .returned (.tuple #[.int .u64 (PM.R PM.g 32 (PM.C p q) : Nat), .int .i64 0]) ∧ Grew w w' := by
  have h := refMulMod_any p q 4812730177 w hp hq (by decide) (by decide)
  rw [log2_g] at h
  exact h
set_option maxHeartbeats 400000 in
theorem refJoin_neg (a b : Nat) (n : Int) (w : World) (hn : n < 0) :
    Calls Try.prog 25 #[.int .u32 a, .int .u32 b, .int .i64 n] w fun e w' => e = .returned (.tuple #[.int .u32 0, .int .i64 2]) ∧ w' = w := by
  go_enter Try.func25, Try.ntmps25
  go_wp2
  go_ret2
  exact ⟨rfl, rfl⟩
set_option maxHeartbeats 1000000 in
theorem refJoin_any (a b n : Nat) (w : World) (ha : a < 4294967296) (hb : b < 4294967296) (hn : n < 9223372036854775808) :
    Calls Try.prog 25 #[.int .u32 a, .int .u32 b, .int .i64 n] w fun e w' => e = .returned (.tuple #[.int .u32 (PM.R PM.g 32 (PM.C a (2 ^ (8 * n))) ^^^ b : Nat), .int .i64 0]) ∧ Below w.heap.size w w' := by
  have hn2 : n < 18446744073709551616 := by omega
  go_enter Try.func25, Try.ntmps25
  go_wp2_with fail
  refine (refPowG n _ hn2).mono ?_
  rintro e w1 ⟨rfl, hg1⟩
  go_wp2_with fail
  go_loopw [8, 10] (fun s c wr => ∃ i : Nat, i ≤ 3 ∧ c = .int .i64 i ∧ s = .int .u64 (PM.R PM.g 32 (2 ^ (n * 2 ^ i)) : Nat) ∧ Grew w wr) (fun _ c _ => 3 - (intOf c).toNat)
  case atStart => exact ⟨0, by omega, rfl, by rw [Nat.pow_zero, Nat.mul_one], hg1⟩
  case round =>
    clear hg1
    obtain ⟨i, hi, rfl, rfl, hg1⟩ := hrel
    by_cases hlt : i < 3
    · have hr := RG_lt (2 ^ (n * 2 ^ i))
      have HS : Hid (PM.R PM.g 32 (PM.C (PM.R PM.g 32 (2 ^ (n * 2 ^ i))) (PM.R PM.g 32 (2 ^ (n * 2 ^ i)))) = PM.R PM.g 32 (2 ^ (n * 2 ^ (i + 1)))) := PM.sq3 n i
      generalize PM.R PM.g 32 (2 ^ (n * 2 ^ i)) = r at *
      go_wp2_with fail
      refine (refMulG r r _ (by omega) (by omega)).mono ?_
      rintro e w2 ⟨rfl, hg2⟩
      go_wp2_with fail
      go_roundw
      case rel => exact ⟨i + 1, by omega, by go_num, by rw [HS.out], grew_trans hg1 hg2⟩
      case measure => simp [intOf] <;> omega
    · have hr := RG_lt (2 ^ (n * 2 ^ i))
      have HM : Hid (PM.R PM.g 32 (PM.C a (PM.R PM.g 32 (2 ^ (n * 2 ^ i)))) = PM.R PM.g 32 (PM.C a (2 ^ (8 * n)))) := by
        rw [show i = 3 by omega, show n * 2 ^ 3 = 8 * n by omega]
        exact PM.R_C_right PM.degG _ _
      generalize PM.R PM.g 32 (2 ^ (n * 2 ^ i)) = r at *
      have hs := RG_lt (PM.C a r)
      have hX := xor32 _ b hs hb
      have hM := fun w => refMulG a r w (by omega) (by omega)
      generalize PM.R PM.g 32 (PM.C a r) = s at *
      go_wp2_with fail
      refine (hM _).mono ?_
      rintro e w2 ⟨rfl, hg2⟩
      go_wp2_with fail
      go_ret2
      exact ⟨by rw [← HM.out]; rfl, (grew_trans hg1 hg2).below⟩
theorem generator_any (w : World) : Calls Try.prog 17 #[] w fun e w' => e = .returned (.int .u64 4812730177) ∧ w' = w := by
  go_enter Try.func17, Try.ntmps17
  go_wp2
  go_ret
  exact ⟨rfl, rfl⟩
theorem ofG (a : Option Addr) (len cap : Nat) (bs : Nat → Nat) (w : World) (hr : Row8 w a len cap bs) (hlen : len ≤ 1000000) :
    Calls Try.prog 16 #[.slice a len cap, .int .u64 4812730177] w fun e w' => e = .returned (.tuple #[.int .u64 (PM.R PM.g 32 (PM.V (PM.fb bs) (8 * len)) : Nat), .int .i64 0]) ∧ w' = w := by
  have h := of_row a len cap 4812730177 bs w hr hlen (by decide) (by decide)
  rw [log2_g] at h
  exact h
theorem row4 (w : World) (x : Nat) (hx : x < 4294967296) :
    Row8 (w.alloc (.cells #[.int .u8 ((x : Int) / 16777216), .int .u8 ((x : Int) / 65536 % 256), .int .u8 ((x : Int) / 256 % 256), .int .u8 ((x : Int) % 256)] 5)) (some ⟨w.heap.size, 0, none⟩) 4 4 (PM.w4 x) := by
  refine row8_new w _ _ (PM.w4 x) 4 (fun i _ => PM.w4_lt x i) (fun i hi => ?_)
  have e0 : (x : Int) / 16777216 = ((PM.w4 x 0 : Nat) : Int) := by show _ = ((x / 16777216 % 256 : Nat) : Int); omega
  have e1 : (x : Int) / 65536 % 256 = ((PM.w4 x 1 : Nat) : Int) := by show _ = ((x / 65536 % 256 : Nat) : Int); omega
  have e2 : (x : Int) / 256 % 256 = ((PM.w4 x 2 : Nat) : Int) := by show _ = ((x / 256 % 256 : Nat) : Int); omega
  have e3 : (x : Int) % 256 = ((PM.w4 x 3 : Nat) : Int) := by show _ = ((x % 256 : Nat) : Int); omega
  rw [e0, e1, e2, e3]
  rcases (show i = 0 ∨ i = 1 ∨ i = 2 ∨ i = 3 by omega) with rfl | rfl | rfl | rfl <;> rfl
set_option maxRecDepth 100000 in
set_option maxHeartbeats 1000000 in
theorem seal_row (a : Option Addr) (len cap : Nat) (bs : Nat → Nat) (w : World) (hr : Row8 w a len cap bs) (hlen : len ≤ 1000000) :
    Calls Try.prog 20 #[.slice a len cap] w fun e w' => ∃ v, e = .returned v ∧ w'.ownsRow w.heap.size 5 1 v (len + 4) (CB (PM.sl bs len) (len + 4)) ∧ Below w.heap.size w w' := by
  obtain ⟨i0, hi, hz0, hz1, hz2⟩ := info_parts info_u8
  have hk := PM.K_lt bs len
  go_enter Try.func20, Try.ntmps20
  go_wp2_with (at_make; refine wpList_make8 _ rfl (.tmp 6) (.tmp 9) 22 rfl w.heap.size 5 i0 Try.underlying22 hi hz0 hz1 hz2 _ _ _ _ len (len + 4) rfl rfl rfl ?b1 (by omega) (by omega) ?b2 ?_)
  case b1 => omega
  case b2 => exact Nat.le_refl _
  intro w1 hown1 hbel1
  have R1 := hr.below hbel1
  go_wp2_with (refine wpList_copy8 rfl (.tmp 11) (.tmp 12) 22 22 rfl 5 Try.underlying22 size_u8 w.heap.size w.heap.size len (len + 4) _ rfl hown1 a len cap bs rfl R1 w hbel1 ?_)
  intro w2 hown2 hbel2
  rw [CB_congr _ bs len (fun i hi => if_pos hi)] at hown2
  have R2 := hr.below hbel2
  have hB := cbits_row a len cap bs w2 R2 (by omega)
  have hsz2 := hbel2.size
  have hown3 := hown2.alloc (.cells #[.int .u8 ((PM.K bs len : Int) / 16777216), .int .u8 ((PM.K bs len : Int) / 65536 % 256), .int .u8 ((PM.K bs len : Int) / 256 % 256), .int .u8 ((PM.K bs len : Int) % 256)] 5)
  have hbel3 := hbel2.alloc hsz2 (.cells #[.int .u8 ((PM.K bs len : Int) / 16777216), .int .u8 ((PM.K bs len : Int) / 65536 % 256), .int .u8 ((PM.K bs len : Int) / 256 % 256), .int .u8 ((PM.K bs len : Int) % 256)] 5)
  have R4 := row4 w2 (PM.K bs len) hk
  have hsz3 := hbel3.size
  have HS : Hid (CB bs len ++ CB (PM.w4 (PM.K bs len)) 4 = CB (PM.sl bs len) (len + 4)) := CB_append _ _ _ _
  clear hown1 hown2 hbel1 hbel2 R1 R2
  generalize PM.K bs len = k at *
  go_wp2_with (first | (go_at_call 15; refine hB.mono ?_; rintro e w' ⟨rfl, rfl⟩) | (at_builtin; refine wpList_append_row8 rfl (.tmp 16) (.tmp 28) 22 rfl w.heap.size 5 i0 (.int .u8 0) Try.underlying22 hi hz0 hz1 hz2 rfl _ len _ rfl hown3 (some ⟨w'.heap.size, 0, none⟩) 4 4 (PM.w4 k) rfl R4 (by unfold maxLen; omega) (by omega) hsz3 ?_))
  intro v w4 hown4 hgrow4
  have hbel4 : Below w.heap.size w w4 := hbel3.grown hgrow4 hsz3 (fun j hj => (hown3.lt j hj).1)
  rw [HS.out] at hown4
  clear hown3 hgrow4 hbel3 R4
  go_wp2
  go_ret
  exact ⟨_, rfl, hown4, hbel4⟩

end Go.Proofs.Ytlnfkgnlagadaaa
