/- What the functions of package crc that hold no table answer, said of natural numbers. -/
import Derived.Test.YtohhidnockmkaaaOf
import Derived.Test.YtohhidnockmkaaaRowo
import Derived.Test.YtohhidnockmkaaaCmath
import Derived.Deep.QuietTactic
import Derived.BigQuiet
namespace Go.Proofs.Ytohhidnockmkaaa
open Go.RowKit

theorem shr31_hi {s : Nat} (h : s < 4294967296) (hb : 2147483648 ≤ s) : ((s : Int) / 2147483648 == 1) = true := by simp; omega
theorem shr31_lo {s : Nat} (hb : s < 2147483648) : ((s : Int) / 2147483648 == 1) = false := by simp; omega
theorem build0 (w : World) : (Instr.buildSlice 31 0 #[]).run Try.prog w = .ok (.slice (some ⟨w.heap.size, 0, none⟩) 0 0) (w.alloc (.cells #[] 5)) := by kernel_rfl
theorem log2_g : Nat.log2 4812730177 = 32 := PM.g_log2
theorem xor32 (a b : Nat) (ha : a < 4294967296) (hb : b < 4294967296) : bits .xor .u32 (a : Int) (b : Int) = ((a ^^^ b : Nat) : Int) := u32_xor_nat a b ha hb
theorem or32_add (x y : Nat) (k : Nat) (hx : x % 2 ^ k = 0) (hy : y < 2 ^ k) (h1 : x < 4294967296) (h2 : y < 4294967296) : bits .or .u32 (x : Int) (y : Int) = ((x + y : Nat) : Int) := by
  rw [u32_or_nat x y h1 h2, nat_join k x y hx hy]
set_option maxHeartbeats 400000 in
theorem timesX_any (s : Nat) (w : World) (hs : s < 4294967296) :
    Calls Try.prog 45 #[.int .u32 s] w fun e w' => e = .returned (.int .u32 (PM.tx s : Nat)) ∧ w' = w := by
  by_cases hb : 2147483648 ≤ s
  · have h1 := shr31_hi hs hb
    go_enter Try.func45, Try.ntmps45
    go_wp2
    go_ret
    refine ⟨ret_int ?_, rfl⟩
    have e : (s : Int) * 2 % 4294967296 = ((2 * s - 4294967296 : Nat) : Int) := by omega
    rw [PM.tx_hi hs hb, e]
    exact xor32 _ 517762881 (by omega) (by omega)
  · have h1 := shr31_lo (s := s) (by omega)
    go_enter Try.func45, Try.ntmps45
    go_wp2
    go_ret
    exact ⟨ret_int (by rw [PM.tx_lo (by omega)]; omega), rfl⟩
set_option maxHeartbeats 400000 in
theorem cbits_any (b off len cap : Nat) (bs : Nat → Nat) (w : World) (hlen : len ≤ 9223372036854775807)
    (hc : ∀ i, i < len → bs i < 256 ∧ w.cell? ⟨b, off + i, none⟩ = some (.int .u8 (bs i))) :
    Calls Try.prog 34 #[.slice (some ⟨b, off, none⟩) len cap] w fun e w' => e = .returned (.int .u32 (PM.K bs len : Nat)) ∧ w' = w := by
  go_enter Try.func34, Try.ntmps34
  go_wp2
  go_loop [3, 5, 8, 17] (fun s _ c _ => ∃ i : Nat, i ≤ len ∧ c = .int .i64 i ∧ s = .int .u32 (PM.K bs i : Nat)) (fun _ _ c _ => len - (intOf c).toNat)
  case atStart => exact ⟨0, by omega, rfl, by rw [PM.K_zero]; rfl⟩
  case round =>
    obtain ⟨i, hi, rfl, rfl⟩ := hrel
    by_cases hlt : i < len
    · obtain ⟨hb8, hcell⟩ := hc i hlt
      clear hc
      have hk := PM.K_lt bs i
      have HK : Hid (PM.K bs (i + 1) = PM.txs 8 (PM.K bs i ^^^ bs i * 16777216)) := PM.K_succ bs i hb8
      have hx : PM.K bs i ^^^ bs i * 16777216 < 4294967296 := Nat.xor_lt_two_pow (n := 32) hk (by omega)
      have hX : bits .xor .u32 (PM.K bs i : Int) ((bs i : Int) * 16777216) = ((PM.K bs i ^^^ bs i * 16777216 : Nat) : Int) := by
        have := u32_xor_nat (PM.K bs i) (bs i * 16777216) hk (by omega)
        rw [← this]; simp
      generalize PM.K bs i ^^^ bs i * 16777216 = y at *
      go_wp2
      go_loop [3, 17] (fun s c => ∃ j : Nat, j ≤ 8 ∧ c = .int .i64 j ∧ s = .int .u32 (PM.txs j y : Nat)) (fun _ c => 8 - (intOf c).toNat)
      case atStart => exact ⟨0, by omega, rfl, rfl⟩
      case round =>
        obtain ⟨j, hj, rfl, rfl⟩ := hrel
        by_cases hlt2 : j < 8
        · have hr := PM.txs_lt hx j
          go_wp2_with (go_at_call 45; refine (timesX_any _ _ hr).mono ?_; rintro e w' ⟨rfl, rfl⟩)
          go_round
          case rel => exact ⟨j + 1, by omega, by go_num, rfl⟩
          case measure => simp [intOf] <;> omega
        · go_wp2
          go_round
          case rel => exact ⟨i + 1, by omega, by go_num, by rw [HK.out, show j = 8 by omega]⟩
          case measure => simp [intOf] <;> omega
    · clear hc
      go_wp2
      go_ret
      exact ⟨by rw [show i = len by omega]; rfl, rfl⟩
set_option maxHeartbeats 400000 in
theorem cbits_none (a : Option Addr) (cap : Nat) (w : World) :
    Calls Try.prog 34 #[.slice a 0 cap] w fun e w' => e = .returned (.int .u32 0) ∧ w' = w := by
  go_enter Try.func34, Try.ntmps34
  go_wp2
  refine wp_loop_rounds 1 ?_
  rw [rounds_succ]
  go_wp2
  go_ret
  exact ⟨rfl, rfl⟩
theorem cbits_row (a : Option Addr) (len cap : Nat) (bs : Nat → Nat) (w : World) (hr : Row8 w a len cap bs) (hlen : len ≤ 9223372036854775807) :
    Calls Try.prog 34 #[.slice a len cap] w fun e w' => e = .returned (.int .u32 (PM.K bs len : Nat)) ∧ w' = w := by
  by_cases hz : len = 0
  · subst hz; rw [PM.K_zero]; exact cbits_none a cap w
  · obtain ⟨b, off, rfl, _, hc⟩ := hr.plain (by omega)
    exact cbits_any b off len cap bs w hlen hc
theorem word_num (x0 x1 x2 x3 : Nat) (h0 : x0 < 256) (h1 : x1 < 256) (h2 : x2 < 256) (h3 : x3 < 256) :
    bits .or .u32 (bits .or .u32 (bits .or .u32 ((x0 : Int) * 16777216) ((x1 : Int) * 65536)) ((x2 : Int) * 256)) (x3 : Int) = ((x0 * 16777216 + x1 * 65536 + x2 * 256 + x3 : Nat) : Int) := by
  have e0 : (x0 : Int) * 16777216 = ((x0 * 16777216 : Nat) : Int) := by omega
  have e1 : (x1 : Int) * 65536 = ((x1 * 65536 : Nat) : Int) := by omega
  have e2 : (x2 : Int) * 256 = ((x2 * 256 : Nat) : Int) := by omega
  rw [e0, e1, e2, or32_add _ _ 24 (by omega) (by omega) (by omega) (by omega), or32_add _ _ 16 (by omega) (by omega) (by omega) (by omega), or32_add _ _ 8 (by omega) (by omega) (by omega) (by omega)]
set_option maxHeartbeats 1000000 in
theorem word_any (b off len cap x0 x1 x2 x3 : Nat) (w : World) (hlen : (3 : Int) < (len : Int)) (h0 : x0 < 256) (h1 : x1 < 256) (h2 : x2 < 256) (h3 : x3 < 256)
    (c0 : w.cell? ⟨b, off, none⟩ = some (.int .u8 x0)) (c1 : w.cell? ⟨b, off + 1, none⟩ = some (.int .u8 x1)) (c2 : w.cell? ⟨b, off + 2, none⟩ = some (.int .u8 x2)) (c3 : w.cell? ⟨b, off + 3, none⟩ = some (.int .u8 x3)) :
    Calls Try.prog 35 #[.slice (some ⟨b, off, none⟩) len cap] w fun e w' => e = .returned (.int .u32 ((x0 * 16777216 + x1 * 65536 + x2 * 256 + x3 : Nat) : Int)) ∧ ∃ m, w' = w.drewN m := by
  have hn := word_num x0 x1 x2 x3 h0 h1 h2 h3
  have l0 : (0 : Int) < (len : Int) := by omega
  have l1 : (1 : Int) < (len : Int) := by omega
  have l2 : (2 : Int) < (len : Int) := by omega
  generalize x0 * 16777216 + x1 * 65536 + x2 * 256 + x3 = y at *
  go_enter Try.func35, Try.ntmps35
  go_wp2_with fail
  go_quiet (fail)
  go_wp2
  go_ret
  exact ⟨rfl, _, rfl⟩
set_option maxHeartbeats 1000000 in
theorem valid_short (a : Option Addr) (len cap : Nat) (w : World) (h : len < 4) :
    Calls Try.prog 20 #[.slice a len cap] w fun e w' => e = .returned (.bool false) ∧ ∃ m, w' = w.drewN m := by
  have hd : decide ((0 : Int) ≤ (len : Int) - 4) = false := by simp; omega
  have hd2 : decide ((4 : Int) ≤ (len : Int)) = false := by simp; omega
  have hd3 : decide (4 ≤ len) = false := by simp; omega
  go_enter Try.func20, Try.ntmps20
  go_wp2_with fail
  go_quiet (fail)
  go_wp2
  go_ret
  exact ⟨rfl, _, rfl⟩
set_option maxHeartbeats 1000000 in
theorem valid_long (b off len cap : Nat) (bs : Nat → Nat) (w : World) (h : 4 ≤ len) (hr : Row8 w (some ⟨b, off, none⟩) len cap bs) (hlen : len ≤ 9223372036854775807) :
    Calls Try.prog 20 #[.slice (some ⟨b, off, none⟩) len cap] w fun e w' => e = .returned (.bool (decide (PM.R PM.g 32 (PM.V (PM.fb bs) (8 * len)) = 0))) ∧ ∃ m, w' = w.drewN m := by
  obtain ⟨n, rfl⟩ : ∃ n, len = n + 4 := ⟨len - 4, by omega⟩
  have hcap := hr.le
  have HV := PM.valid_iff bs n hr.byte
  have hdec : ((bs n * 16777216 + bs (n + 1) * 65536 + bs (n + 2) * 256 + bs (n + 3) : Nat) == PM.K bs n) = decide (PM.R PM.g 32 (PM.V (PM.fb bs) (8 * (n + 4))) = 0) := by
    rw [← decide_eq_decide.2 HV]; rfl
  have hdec2 : (((bs n * 16777216 + bs (n + 1) * 65536 + bs (n + 2) * 256 + bs (n + 3) : Nat) : Int) == ((PM.K bs n : Nat) : Int)) = decide (PM.R PM.g 32 (PM.V (PM.fb bs) (8 * (n + 4))) = 0) := by
    rw [← hdec, Bool.eq_iff_iff]; simp; omega
  have hA := fun k => (hr.drewN k).upto n (by omega)
  have hW : ∀ k c, Calls Try.prog 35 #[.slice (some ⟨b, off + n, none⟩) 4 c] (w.drewN k) fun e w' => e = .returned (.int .u32 ((bs n * 16777216 + bs (n + 1) * 65536 + bs (n + 2) * 256 + bs (n + 3) : Nat) : Int)) ∧ ∃ m, w' = (w.drewN k).drewN m := by
    intro k c
    have R := (hr.drewN k).from_ n (by omega)
    have s := R.src _ rfl
    have q := R.byte
    have t0 := s 0 (by omega); have t1 := s 1 (by omega); have t2 := s 2 (by omega); have t3 := s 3 (by omega)
    rw [Go.WideShapes.add_plain] at t0 t1 t2 t3
    exact word_any b (off + n) 4 c _ _ _ _ _ (by omega) (q 0 (by omega)) (q 1 (by omega)) (q 2 (by omega)) (q 3 (by omega)) t0 t1 t2 t3
  have hB := fun k => cbits_row _ _ _ _ _ (hA k) (by omega)
  clear hr HV hA
  generalize decide (PM.R PM.g 32 (PM.V (PM.fb bs) (8 * (n + 4))) = 0) = D at *
  generalize PM.K bs n = Z at *
  generalize bs n * 16777216 + bs (n + 1) * 65536 + bs (n + 2) * 256 + bs (n + 3) = Y at *
  clear hdec
  have hd : decide ((0 : Int) ≤ ((n + 4 : Nat) : Int) - 4) = true := by simp
  go_enter Try.func20, Try.ntmps20
  go_wp2_with fail
  go_quiet (first | (go_at_call 35; refine Calls.quiet_of (hW _ _)) | (go_at_call 34; refine Calls.quiet_of_same (hB _)))
  go_wp2
  go_ret
  exact ⟨rfl, _, rfl⟩
theorem valid_row (a : Option Addr) (len cap : Nat) (bs : Nat → Nat) (w : World) (hr : Row8 w a len cap bs) (hlen : len ≤ 9223372036854775807) :
    Calls Try.prog 20 #[.slice a len cap] w fun e w' => e = .returned (.bool (decide (4 ≤ len ∧ PM.R PM.g 32 (PM.V (PM.fb bs) (8 * len)) = 0))) ∧ ∃ m, w' = w.drewN m := by
  by_cases h : 4 ≤ len
  · obtain ⟨b, off, rfl, _, _⟩ := hr.plain (by omega)
    have := valid_long b off len cap bs w h hr hlen
    simpa [h] using this
  · have := valid_short a len cap w (by omega)
    simpa [h] using this

end Go.Proofs.Ytohhidnockmkaaa
