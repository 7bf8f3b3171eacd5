/- The walk of the statement CrcBursts: a burst of at most 32 bits is seen. -/
import Derived.Test.YtlnfkgnlagadaabHand
namespace Go.Proofs.Ytlnfkgnlagadaab
open Go.RowKit
set_option maxHeartbeats 1000000 in
theorem crcBursts_long (a0 : Option Addr) (len0 cap0 : Nat) (n x : Int) (w : World) (hl : len0 ≤ 9223372036854775807) (h : 4000 < len0) :
    Calls Try.prog 3 #[.slice a0 len0 cap0, .int .i64 n, .int .u32 x] w fun e w' => e = .returned (.bool true) ∧ Below w.heap.size w w' := by
  go_enter Try.func3, Try.ntmps3
  go_wp2_with (go_at_call 7; refine (awake2 _).mono ?_; rintro e w' ⟨rfl, hb⟩)
  go_ret
  exact ⟨rfl, hb⟩
set_option maxRecDepth 100000 in
set_option maxHeartbeats 1000000 in
theorem crcBursts_any (a0 : Option Addr) (len0 cap0 : Nat) (n : Int) (x : Nat) (bs : Nat → Nat) (w : World) (hr : Row8 w a0 len0 cap0 bs) (hl : len0 ≤ 4000) (hx : x < 4294967296) :
    Calls Try.prog 3 #[.slice a0 len0 cap0, .int .i64 n, .int .u32 x] w fun e w' => e = .returned (.bool true) ∧ Below w.heap.size w w' := by
  have hslb : ∀ i, i < len0 + 4 → PM.sl bs len0 i < 256 := PM.ct_lt (k := 4) hr.byte (fun i _ => PM.w4_lt _ i)
  have HSL := PM.V_sl bs len0
  go_enter Try.func3, Try.ntmps3
  go_wp2_with fail
  refine (awake2 _).mono ?_
  rintro e w1 ⟨rfl, hbel1⟩
  have hsz1 := hbel1.size
  go_wp2_with fail
  refine (seal_row a0 len0 cap0 bs w1 (hr.below hbel1) (by omega)).mono ?_
  rintro e w2 ⟨vs, rfl, hownS, hbelS⟩
  have hbel2 := below_all hbel1 hsz1 hbelS
  have hsz2 := hbel2.size
  obtain ⟨a4, c4, rfl, RS⟩ := own_row8 hownS hslb
  generalize PM.sl bs len0 = f at *
  by_cases hno : x = 0 ∨ 8 * (len0 + 4) < PM.bl x
  · clear HSL hownS hbelS hslb
    go_wp2_with fail
    refine (burst_no a4 (len0 + 4) c4 n x w2 (by omega) hx hno).mono ?_
    rintro e w3 ⟨rfl, rfl⟩
    clear hno
    go_wp2
    go_ret
    exact ⟨rfl, hbel2⟩
  · go_wp2_with fail
    refine (burst_yes a4 (len0 + 4) c4 n x f w2 RS (by omega) hx (by omega) (by omega)).mono ?_
    rintro e w3 ⟨v, rfl, hbel3, f2, d, hown3, hfb2, hV2⟩
    have hbel4 := below_all hbel2 hsz2 hbel3
    obtain ⟨a3, c3, rfl, R3⟩ := own_row8 hown3 hfb2
    have hV := valid_row a3 _ c3 f2 w3 R3 (by omega)
    have hne : ¬ (4 ≤ len0 + 4 ∧ PM.R PM.g 32 (PM.V (PM.fb f2) (8 * (len0 + 4))) = 0) := by
      rintro ⟨_, h⟩
      rw [hV2, PM.R_xor, HSL, Nat.zero_xor] at h
      have := PM.burst x d hx h
      omega
    rw [decide_eq_false hne] at hV
    clear hne hV2 R3 hown3 hfb2 hbel3 HSL hownS hbelS hslb hno RS
    go_wp2_with (go_at_call 10; refine hV.mono ?_; rintro e w5 ⟨rfl, m, rfl⟩)
    go_ret
    exact ⟨rfl, below_drewN hbel4 _⟩
theorem crcBursts_walk (a0 : Option Addr) (len0 cap0 : Nat) (z0 : List Int) (a1 : Int) (a2 : Int) (w : World) (w0 : BRow .u8 w a0 len0 cap0 z0) (_ : (Lit.int .i64 a1).wf = true) (w2 : (Lit.int .u32 a2).wf = true) :
    Calls Try.prog 3 #[.slice a0 len0 cap0, .int .i64 a1, .int .u32 a2] w fun e w' => e = .returned (.bool true) ∧ Below w.heap.size w w' := by
  obtain ⟨x, rfl, hx⟩ := nat32' w2
  by_cases h : len0 ≤ 4000
  · exact crcBursts_any a0 len0 cap0 a1 x _ w w0.row8 h hx
  · exact crcBursts_long a0 len0 cap0 a1 x w w0.len_le (by omega)

end Go.Proofs.Ytlnfkgnlagadaab
