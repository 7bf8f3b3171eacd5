/- The walks of the statements of layer 2 without tables: CrcDivides, CrcJoins. -/
import Derived.Test.YtlnfkgnlagadaabCref
import Derived.OpenShut
import Derived.Deep.RegionWith
namespace Go.Proofs.Ytlnfkgnlagadaab
open Go.RowKit

theorem nat32' {a : Int} (h : (Lit.int .u32 a).wf = true) : ∃ n : Nat, a = n ∧ n < 4294967296 := by
  have := bounds_u32 h
  exact ⟨a.toNat, by omega, by omega⟩
set_option maxHeartbeats 1000000 in
theorem crcZeros_long (a0 : Option Addr) (len0 cap0 : Nat) (n : Int) (w : World) (hl : len0 ≤ 9223372036854775807) (h : 4000 < len0) :
    Calls Try.prog 6 #[.slice a0 len0 cap0, .int .i64 n] w fun e w' => e = .returned (.bool true) ∧ Below w.heap.size w w' := by
  go_enter Try.func6, Try.ntmps6
  go_wp2_with (go_at_call 7; refine (awake2 _).mono ?_; rintro e w' ⟨rfl, hb⟩)
  go_ret
  exact ⟨rfl, hb⟩
set_option maxRecDepth 100000 in
set_option maxHeartbeats 1000000 in
theorem crcZeros_any (a0 : Option Addr) (len0 cap0 : Nat) (n : Int) (bs : Nat → Nat) (w : World) (hr : Row8 w a0 len0 cap0 bs) (hl : len0 ≤ 4000) :
    Calls Try.prog 6 #[.slice a0 len0 cap0, .int .i64 n] w fun e w' => e = .returned (.bool true) ∧ Below w.heap.size w w' := by
  obtain ⟨i0, hi, hz0, hz1, hz2⟩ := info_parts info_u8
  have hk := PM.K_lt bs len0
  obtain ⟨z, hz⟩ : ∃ z : Nat, n % 18446744073709551616 % 64 = (z : Int) := ⟨(n % 18446744073709551616 % 64).toNat, by omega⟩
  have hz64 : z < 64 := by omega
  have hwz : wrap64 ((IntKind.u64.wrap n).tmod 64) = (z : Int) := by
    rw [IntKind.wrap_u64, Int.tmod_eq_emod_of_nonneg (by omega), hz]
    unfold wrap64; omega
  clear hz
  go_enter Try.func6, Try.ntmps6
  go_wp2_with fail
  refine (awake2 _).mono ?_
  rintro e w1 ⟨rfl, hbel1⟩
  have hsz1 := hbel1.size
  go_wp2_with (at_make; refine wpList_make8 _ rfl (.tmp 15) (.tmp 15) 22 rfl w.heap.size 5 i0 Try.underlying22 hi hz0 hz1 hz2 _ _ _ _ z z rfl rfl (by omega) (by omega) (Nat.le_refl _) (by omega) hsz1 ?_)
  intro w2 hown2 hbel2'
  have hbel2 := hbel1.trans hbel2'
  have hsz2 := hbel2.size
  have R2 := hr.below hbel2
  go_wp2_with (at_builtin; refine wpList_append_row8 rfl (.tmp 16) (.tmp 17) 22 rfl w.heap.size 5 i0 (.int .u8 0) Try.underlying22 hi hz0 hz1 hz2 rfl _ z _ rfl hown2 a0 len0 cap0 bs rfl R2 (by unfold maxLen; omega) (by omega) hsz2 ?_)
  intro v3 w3 hown3 hgrow3
  have hbel3 : Below w.heap.size w w3 := hbel2.grown hgrow3 hsz2 (fun k hk => (hown2.lt k hk).1)
  have hsz3 := hbel3.size
  rw [show CB (fun _ => 0) z ++ CB bs len0 = CB (PM.ct (fun _ => 0) bs z) (z + len0) from CB_append _ _ _ _] at hown3
  have hctb : ∀ i, i < z + len0 → PM.ct (fun _ => 0) bs z i < 256 := PM.ct_lt (fun i _ => by omega) hr.byte
  have hKz : PM.K (PM.ct (fun _ => 0) bs z) (z + len0) = PM.K bs len0 := by
    rw [PM.K_ct, show PM.K (fun _ => 0) z = 0 by unfold PM.K; rw [PM.V_bytes_zero, PM.E_zero], PM.C_zero_left, PM.R_zero, Nat.zero_xor]
  have hKs : PM.K (PM.sl (PM.ct (fun _ => 0) bs z) (z + len0)) (z + len0 + 4) = 0 := PM.K_of_R _ _ (PM.V_sl _ _)
  have hslb : ∀ i, i < z + len0 + 4 → PM.sl (PM.ct (fun _ => 0) bs z) (z + len0) i < 256 := PM.ct_lt (k := 4) hctb (fun i _ => PM.w4_lt _ i)
  have HS : Hid (CB (PM.ct (fun _ => 0) bs z) (z + len0) ++ CB (PM.w4 (PM.K bs len0)) 4 = CB (PM.sl (PM.ct (fun _ => 0) bs z) (z + len0)) (z + len0 + 4)) := by
    have h := CB_append (PM.ct (fun _ => 0) bs z) (PM.w4 (PM.K bs len0)) (z + len0) 4
    rw [← hKz] at h ⊢
    exact h
  clear hown2 hbel2' hbel2 R2 hgrow3 hbel1
  generalize PM.ct (fun _ => 0) bs z = f at *
  generalize PM.sl f (z + len0) = f4 at *
  obtain ⟨ax, cx, rfl, RX⟩ := own_row8 hown3 hctb
  have hB := cbits_row a0 len0 cap0 bs w3 (hr.below hbel3) (by omega)
  have hBx := cbits_row ax (z + len0) cx f w3 RX (by omega)
  rw [hKz] at hBx
  clear hKz hctb RX
  generalize PM.K bs len0 = k at *
  have R4 := row4 w3 k hk
  have hown4 := hown3.alloc (.cells #[.int .u8 ((k : Int) / 16777216), .int .u8 ((k : Int) / 65536 % 256), .int .u8 ((k : Int) / 256 % 256), .int .u8 ((k : Int) % 256)] 5)
  have hbel4 := hbel3.alloc hsz3 (.cells #[.int .u8 ((k : Int) / 16777216), .int .u8 ((k : Int) / 65536 % 256), .int .u8 ((k : Int) / 256 % 256), .int .u8 ((k : Int) % 256)] 5)
  have hsz4 := hbel4.size
  clear hown3 hbel3
  go_wp2_with (first | (go_at_call_of 18 a0; refine hB.mono ?_; rintro e w' ⟨rfl, rfl⟩) | (go_at_call_of 18 ax; refine hBx.mono ?_; rintro e w'' ⟨rfl, rfl⟩) | (at_builtin; refine wpList_append_row8_g rfl (.tmp 26) (.tmp 38) 22 rfl w.heap.size 5 i0 (.int .u8 0) Try.underlying22 hi hz0 hz1 hz2 rfl _ _ _ rfl hown4 (some ⟨w''.heap.size, 0, none⟩) 4 4 (PM.w4 k) rfl R4 (by unfold maxLen; omega) (by omega) hsz4 ?_))
  intro v5 w5 hown5 hgrow5
  have hbel5 : Below w.heap.size w w5 := hbel4.grown hgrow5 hsz4 (fun j hj => (hown4.lt j hj).1)
  rw [HS.out] at hown5
  obtain ⟨ay, cy, rfl, RY⟩ := own_row8 hown5 hslb
  have hBy := cbits_row ay _ cy f4 w5 RY (by omega)
  rw [hKs] at hBy
  clear hown4 hgrow5 hbel4 R4 hown5 RY hslb hKs
  go_wp2_with (go_at_call 18; refine hBy.mono ?_; rintro e w6 ⟨rfl, rfl⟩)
  go_ret
  exact ⟨ret_bool (by simp), hbel5⟩
theorem crcZeros_walk (a0 : Option Addr) (len0 cap0 : Nat) (z0 : List Int) (a1 : Int) (w : World) (w0 : BRow .u8 w a0 len0 cap0 z0) (_ : (Lit.int .i64 a1).wf = true) :
    Calls Try.prog 6 #[.slice a0 len0 cap0, .int .i64 a1] w fun e w' => e = .returned (.bool true) ∧ Below w.heap.size w w' := by
  by_cases h : len0 ≤ 4000
  · exact crcZeros_any a0 len0 cap0 a1 _ w w0.row8 h
  · exact crcZeros_long a0 len0 cap0 a1 w w0.len_le (by omega)

end Go.Proofs.Ytlnfkgnlagadaab
