/- What the functions of package crc that hold no table answer, said of natural numbers. -/
import Derived.Test.YtikdkbcekibakaaOf
import Derived.Test.YtikdkbcekibakaaRowo
import Derived.Test.YtikdkbcekibakaaCmath
import Derived.Deep.QuietTactic
import Derived.BigQuiet
namespace Go.Proofs.Ytikdkbcekibakaa
open Go.RowKit

theorem shr31_hi {s : Nat} (h : s < 4294967296) (hb : 2147483648 ≤ s) : ((s : Int) / 2147483648 == 1) = true := by simp; omega
theorem shr31_lo {s : Nat} (hb : s < 2147483648) : ((s : Int) / 2147483648 == 1) = false := by simp; omega
theorem build0 (w : World) : (Instr.buildSlice 25 0 #[]).run Try.prog w = .ok (.slice (some ⟨w.heap.size, 0, none⟩) 0 0) (w.alloc (.cells #[] 5)) := by kernel_rfl
theorem log2_g : Nat.log2 4812730177 = 32 := PM.g_log2
theorem xor32 (a b : Nat) (ha : a < 4294967296) (hb : b < 4294967296) : bits .xor .u32 (a : Int) (b : Int) = ((a ^^^ b : Nat) : Int) := u32_xor_nat a b ha hb
theorem or32_add (x y : Nat) (k : Nat) (hx : x % 2 ^ k = 0) (hy : y < 2 ^ k) (h1 : x < 4294967296) (h2 : y < 4294967296) : bits .or .u32 (x : Int) (y : Int) = ((x + y : Nat) : Int) := by
  rw [u32_or_nat x y h1 h2, nat_join k x y hx hy]
set_option maxHeartbeats 400000 in
theorem timesX_any (s : Nat) (w : World) (hs : s < 4294967296) :
    Calls Try.prog 26 #[.int .u32 s] w fun e w' => e = .returned (.int .u32 (PM.tx s : Nat)) ∧ w' = w := by
  by_cases hb : 2147483648 ≤ s
  · have h1 := shr31_hi hs hb
    go_enter Try.func26, Try.ntmps26
    go_wp2
    go_ret
    refine ⟨ret_int ?_, rfl⟩
    have e : (s : Int) * 2 % 4294967296 = ((2 * s - 4294967296 : Nat) : Int) := by omega
    rw [PM.tx_hi hs hb, e]
    exact xor32 _ 517762881 (by omega) (by omega)
  · have h1 := shr31_lo (s := s) (by omega)
    go_enter Try.func26, Try.ntmps26
    go_wp2
    go_ret
    exact ⟨ret_int (by rw [PM.tx_lo (by omega)]; omega), rfl⟩
set_option maxHeartbeats 400000 in
theorem cbits_any (b off len cap : Nat) (bs : Nat → Nat) (w : World) (hlen : len ≤ 9223372036854775807)
    (hc : ∀ i, i < len → bs i < 256 ∧ w.cell? ⟨b, off + i, none⟩ = some (.int .u8 (bs i))) :
    Calls Try.prog 15 #[.slice (some ⟨b, off, none⟩) len cap] w fun e w' => e = .returned (.int .u32 (PM.K bs len : Nat)) ∧ w' = w := by
  go_enter Try.func15, Try.ntmps15
  go_wp2
  go_loop [3, 5, 8, 17] (fun s _ c _ => ∃ i : Nat, i ≤ len ∧ c = .int .i64 i ∧ s = .int .u32 (PM.K bs i : Nat)) (fun _ _ c _ => len - (intOf c).toNat)
  case atStart => exact ⟨0, by omega, rfl, by rw [PM.K_zero]; rfl⟩
  case round =>
    obtain ⟨i, hi, rfl, rfl⟩ := hrel
    by_cases hlt : i < len
    · obtain ⟨hb8, hcell⟩ := hc i hlt
      clear hc
      have hk := PM.K_lt bs i
      have HK : Hid (PM.K bs (i + 1) = PM.txs 8 (PM.K bs i ^^^ bs i * 16777216)) := PM.K_succ bs i hb8
      have hx : PM.K bs i ^^^ bs i * 16777216 < 4294967296 := Nat.xor_lt_two_pow (n := 32) hk (by omega)
      have hX : bits .xor .u32 (PM.K bs i : Int) ((bs i : Int) * 16777216) = ((PM.K bs i ^^^ bs i * 16777216 : Nat) : Int) := by
        have := u32_xor_nat (PM.K bs i) (bs i * 16777216) hk (by omega)
        rw [← this]; simp
      generalize PM.K bs i ^^^ bs i * 16777216 = y at *
      go_wp2
      go_loop [3, 17] (fun s c => ∃ j : Nat, j ≤ 8 ∧ c = .int .i64 j ∧ s = .int .u32 (PM.txs j y : Nat)) (fun _ c => 8 - (intOf c).toNat)
      case atStart => exact ⟨0, by omega, rfl, rfl⟩
      case round =>
        obtain ⟨j, hj, rfl, rfl⟩ := hrel
        by_cases hlt2 : j < 8
        · have hr := PM.txs_lt hx j
          go_wp2_with (go_at_call 26; refine (timesX_any _ _ hr).mono ?_; rintro e w' ⟨rfl, rfl⟩)
          go_round
          case rel => exact ⟨j + 1, by omega, by go_num, rfl⟩
          case measure => simp [intOf] <;> omega
        · go_wp2
          go_round
          case rel => exact ⟨i + 1, by omega, by go_num, by rw [HK.out, show j = 8 by omega]⟩
          case measure => simp [intOf] <;> omega
    · clear hc
      go_wp2
      go_ret
      exact ⟨by rw [show i = len by omega]; rfl, rfl⟩
set_option maxHeartbeats 400000 in
theorem cbits_none (a : Option Addr) (cap : Nat) (w : World) :
    Calls Try.prog 15 #[.slice a 0 cap] w fun e w' => e = .returned (.int .u32 0) ∧ w' = w := by
  go_enter Try.func15, Try.ntmps15
  go_wp2
  refine wp_loop_rounds 1 ?_
  rw [rounds_succ]
  go_wp2
  go_ret
  exact ⟨rfl, rfl⟩
theorem cbits_row (a : Option Addr) (len cap : Nat) (bs : Nat → Nat) (w : World) (hr : Row8 w a len cap bs) (hlen : len ≤ 9223372036854775807) :
    Calls Try.prog 15 #[.slice a len cap] w fun e w' => e = .returned (.int .u32 (PM.K bs len : Nat)) ∧ w' = w := by
  by_cases hz : len = 0
  · subst hz; rw [PM.K_zero]; exact cbits_none a cap w
  · obtain ⟨b, off, rfl, _, hc⟩ := hr.plain (by omega)
    exact cbits_any b off len cap bs w hlen hc

end Go.Proofs.Ytikdkbcekibakaa
