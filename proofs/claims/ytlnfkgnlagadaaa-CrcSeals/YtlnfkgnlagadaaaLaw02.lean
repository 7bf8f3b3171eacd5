/- The walks of the statements of layer 2 without tables: CrcDivides, CrcJoins. -/
import Derived.Test.YtlnfkgnlagadaaaCref
import Derived.OpenShut
namespace Go.Proofs.Ytlnfkgnlagadaaa
open Go.RowKit

theorem nat32' {a : Int} (h : (Lit.int .u32 a).wf = true) : ∃ n : Nat, a = n ∧ n < 4294967296 := by
  have := bounds_u32 h
  exact ⟨a.toNat, by omega, by omega⟩
set_option maxHeartbeats 1000000 in
theorem crcDivides_long (a0 : Option Addr) (len0 cap0 : Nat) (w : World) (hl : len0 ≤ 9223372036854775807) (h : 4000 < len0) :
    Calls Try.prog 4 #[.slice a0 len0 cap0] w fun e w' => e = .returned (.bool true) ∧ Below w.heap.size w w' := by
  go_enter Try.func4, Try.ntmps4
  go_wp2_with (go_at_call 9; refine (awake2 _).mono ?_; rintro e w' ⟨rfl, hb⟩)
  go_ret
  exact ⟨rfl, hb⟩
set_option maxRecDepth 100000 in
set_option maxHeartbeats 1000000 in
theorem crcDivides_any (a0 : Option Addr) (len0 cap0 : Nat) (bs : Nat → Nat) (w : World) (hr : Row8 w a0 len0 cap0 bs) (hl : len0 ≤ 4000) :
    Calls Try.prog 4 #[.slice a0 len0 cap0] w fun e w' => e = .returned (.bool true) ∧ Below w.heap.size w w' := by
  obtain ⟨i0, hi, hz0, hz1, hz2⟩ := info_parts info_u8
  have hk := PM.K_lt bs len0
  have hbd := build0
  go_enter Try.func4, Try.ntmps4
  go_wp2_with fail
  refine (awake2 _).mono ?_
  rintro e w1 ⟨rfl, hbel1⟩
  have hsz1 := hbel1.size
  have hbelA : Below w.heap.size w (w1.alloc (.cells #[] 5)) := hbel1.alloc hsz1 _
  have R0 := hr.below hbelA
  have O0 : (w1.alloc (.cells #[] 5)).ownsRow w.heap.size 5 1 (.slice (some ⟨w1.heap.size, 0, none⟩) 0 0) 0 (CB bs 0) := World.ownsRow_made w1 #[] 0 hsz1 (Nat.zero_le _) rfl
  have hszA := hbelA.size
  go_wp2_with (at_builtin; refine wpList_append_row8 rfl (.tmp 11) (.tmp 12) 22 rfl w.heap.size 5 i0 (.int .u8 0) Try.underlying22 hi hz0 hz1 hz2 rfl _ 0 _ rfl O0 a0 len0 cap0 bs rfl R0 (by unfold maxLen; omega) (by omega) hszA ?_)
  intro v2 w2 hown2 hgrow2
  have hbel2 : Below w.heap.size w w2 := hbelA.grown hgrow2 hszA (fun k hk => (O0.lt k hk).1)
  rw [show CB bs 0 = [] from rfl, List.nil_append] at hown2
  have hsz2 := hbel2.size
  have hown3 := hown2.alloc (.cells #[.int .u8 0, .int .u8 0, .int .u8 0, .int .u8 0] 5)
  have hbel3 := hbel2.alloc hsz2 (.cells #[.int .u8 0, .int .u8 0, .int .u8 0, .int .u8 0] 5)
  have R4 := row4z w2
  have hsz3 := hbel3.size
  clear hgrow2 O0 R0 hbelA hown2 hbel2 hbel1
  go_wp2_with (at_builtin; refine wpList_append_row8 rfl (.tmp 13) (.tmp 14) 22 rfl w.heap.size 5 i0 (.int .u8 0) Try.underlying22 hi hz0 hz1 hz2 rfl _ len0 _ rfl hown3 (some ⟨w2.heap.size, 0, none⟩) 4 4 (fun _ => 0) rfl R4 (by unfold maxLen; omega) (by omega) hsz3 ?_)
  intro v4 w4 hown4 hgrow4
  have hbel4 : Below w.heap.size w w4 := hbel3.grown hgrow4 hsz3 (fun j hj => (hown3.lt j hj).1)
  rw [show CB bs len0 ++ CB (fun _ => 0) 4 = CB (PM.ct bs (fun _ => 0) len0) (len0 + 4) from CB_append _ _ _ _] at hown4
  obtain ⟨av, cv, rfl, R5⟩ := own_row8 hown4 (PM.ct_lt (k := 4) hr.byte (fun i _ => by omega))
  have hO := ofG av (len0 + 4) cv _ w4 R5 (by omega)
  rw [V_zeros] at hO
  change Calls _ _ _ _ fun e w' => e = .returned (.tuple #[.int .u64 (PM.K bs len0 : Nat), .int .i64 0]) ∧ w' = w4 at hO
  have hB := cbits_row a0 len0 cap0 bs w4 (hr.below hbel4) (by omega)
  clear hown3 hgrow4 hbel3 R4 hown4 R5 hr
  generalize PM.K bs len0 = k at *
  go_wp2_with (first | (go_at_call 17; refine (generator_any _).mono ?_; rintro e w'' ⟨rfl, rfl⟩) | (go_at_call 16; refine hO.mono ?_; rintro e w'' ⟨rfl, rfl⟩) | (go_at_call 15; refine hB.mono ?_; rintro e w'' ⟨rfl, rfl⟩))
  go_ret
  exact ⟨ret_bool (by simp), hbel4⟩
theorem crcDivides_walk (a0 : Option Addr) (len0 cap0 : Nat) (z0 : List Int) (w : World) (w0 : BRow .u8 w a0 len0 cap0 z0) :
    Calls Try.prog 4 #[.slice a0 len0 cap0] w fun e w' => e = .returned (.bool true) ∧ Below w.heap.size w w' := by
  by_cases h : len0 ≤ 4000
  · exact crcDivides_any a0 len0 cap0 _ w w0.row8 h
  · exact crcDivides_long a0 len0 cap0 w w0.len_le (by omega)
set_option maxHeartbeats 1000000 in
theorem crcJoins_long (a0 : Option Addr) (len0 cap0 : Nat) (a1 : Option Addr) (len1 cap1 : Nat) (x y n : Int) (w : World) (hl0 : len0 ≤ 9223372036854775807) (hl1 : len1 ≤ 9223372036854775807) (h : 4000 < len0 ∨ 4000 < len1) :
    Calls Try.prog 7 #[.slice a0 len0 cap0, .slice a1 len1 cap1, .int .u32 x, .int .u32 y, .int .i64 n] w fun e w' => e = .returned (.bool true) ∧ Below w.heap.size w w' := by
  by_cases h1 : 4000 < len0
  · clear h
    go_enter Try.func7, Try.ntmps7
    go_wp2_with (go_at_call 9; refine (awake2 _).mono ?_; rintro e w' ⟨rfl, hb⟩)
    go_ret
    exact ⟨rfl, hb⟩
  · have h2 : 4000 < len1 := by omega
    clear h
    go_enter Try.func7, Try.ntmps7
    go_wp2_with (go_at_call 9; refine (awake2 _).mono ?_; rintro e w' ⟨rfl, hb⟩)
    go_ret
    exact ⟨rfl, hb⟩
set_option maxRecDepth 100000 in
set_option maxHeartbeats 2000000 in
theorem crcJoins_any (a0 : Option Addr) (len0 cap0 : Nat) (a1 : Option Addr) (len1 cap1 : Nat) (x y : Nat) (n : Int) (b0 b1 : Nat → Nat) (w : World) (r0 : Row8 w a0 len0 cap0 b0) (r1 : Row8 w a1 len1 cap1 b1) (hl0 : len0 ≤ 4000) (hl1 : len1 ≤ 4000) (hx : x < 4294967296) (hy : y < 4294967296) (hn : n < 9223372036854775808) :
    Calls Try.prog 7 #[.slice a0 len0 cap0, .slice a1 len1 cap1, .int .u32 x, .int .u32 y, .int .i64 n] w fun e w' => e = .returned (.bool true) ∧ Below w.heap.size w w' := by
  obtain ⟨i0, hi, hz0, hz1, hz2⟩ := info_parts info_u8
  have hk0 := PM.K_lt b0 len0
  have hk1 := PM.K_lt b1 len1
  have HJ : Hid (PM.K (PM.ct b0 b1 len0) (len0 + len1) = PM.R PM.g 32 (PM.C (PM.K b0 len0) (2 ^ (8 * len1))) ^^^ PM.K b1 len1) := PM.K_ct _ _ _ _
  have hbd := build0
  go_enter Try.func7, Try.ntmps7
  go_wp2_with fail
  refine (awake2 _).mono ?_
  rintro e w1 ⟨rfl, hbel1⟩
  have hsz1 := hbel1.size
  have hB0 := cbits_row a0 len0 cap0 b0 w1 (r0.below hbel1) (by omega)
  have hB1 := cbits_row a1 len1 cap1 b1 w1 (r1.below hbel1) (by omega)
  have hJ := join_any (PM.K b0 len0) (PM.K b1 len1) len1 w1 hk0 hk1 (by omega)
  rw [← HJ.out] at hJ
  generalize PM.K b0 len0 = k0 at *
  generalize PM.K b1 len1 = k1 at *
  go_wp2_with fail
  refine hB0.mono ?_
  rintro e w' ⟨rfl, rfl⟩
  go_wp2_with fail
  refine hB1.mono ?_
  rintro e w'' ⟨rfl, rfl⟩
  go_wp2_with fail
  refine hJ.mono ?_
  rintro e w2 ⟨rfl, rfl⟩
  have hbelA : Below w.heap.size w (w2.alloc (.cells #[] 5)) := hbel1.alloc hsz1 _
  have R0 := r0.below hbelA
  have O0 : (w2.alloc (.cells #[] 5)).ownsRow w.heap.size 5 1 (.slice (some ⟨w2.heap.size, 0, none⟩) 0 0) 0 (CB b0 0) := World.ownsRow_made w2 #[] 0 hsz1 (Nat.zero_le _) rfl
  have hszA := hbelA.size
  clear hB0 hB1 hJ
  go_wp2_with (at_builtin; refine wpList_append_row8_g rfl (.tmp 41) (.tmp 42) 22 rfl w.heap.size 5 i0 (.int .u8 0) Try.underlying22 hi hz0 hz1 hz2 rfl _ 0 _ rfl O0 a0 len0 cap0 b0 rfl R0 (by unfold maxLen; omega) (by omega) hszA ?_)
  intro v3 w3 hown3 hgrow3
  have hbel3 : Below w.heap.size w w3 := hbelA.grown hgrow3 hszA (fun k hk => (O0.lt k hk).1)
  rw [show CB b0 0 = [] from rfl, List.nil_append] at hown3
  have R1 := r1.below hbel3
  have hsz3 := hbel3.size
  clear hgrow3 O0 R0 hbelA hbel1
  go_wp2_with (at_builtin; refine wpList_append_row8_g rfl (.tmp 43) (.tmp 44) 22 rfl w.heap.size 5 i0 (.int .u8 0) Try.underlying22 hi hz0 hz1 hz2 rfl _ len0 _ rfl hown3 a1 len1 cap1 b1 rfl R1 (by unfold maxLen; omega) (by omega) hsz3 ?_)
  intro v4 w4 hown4 hgrow4
  have hbel4 : Below w.heap.size w w4 := hbel3.grown hgrow4 hsz3 (fun j hj => (hown3.lt j hj).1)
  rw [show CB b0 len0 ++ CB b1 len1 = CB (PM.ct b0 b1 len0) (len0 + len1) from CB_append _ _ _ _] at hown4
  obtain ⟨av, cv, rfl, R5⟩ := own_row8 hown4 (PM.ct_lt (k := len1) r0.byte r1.byte)
  have hB := cbits_row av (len0 + len1) cv _ w4 R5 (by omega)
  have hsz4 := hbel4.size
  clear hown3 hgrow4 hbel3 R1 hown4 R5 r0 r1
  generalize PM.K (PM.ct b0 b1 len0) (len0 + len1) = k at *
  by_cases hneg : n < 0
  · go_wp2_with (first | (go_at_call 15; refine hB.mono ?_; rintro e w5 ⟨rfl, rfl⟩) | (go_at_call 24; refine (join_neg x y n _ hneg).mono ?_; rintro e w6 ⟨rfl, rfl⟩) | (go_at_call 25; refine (refJoin_neg x y n _ hneg).mono ?_; rintro e w7 ⟨rfl, rfl⟩))
    go_ret
    exact ⟨rfl, hbel4⟩
  · obtain ⟨m, rfl⟩ : ∃ m : Nat, n = m := ⟨n.toNat, by omega⟩
    have hm : m < 9223372036854775808 := by omega
    have hJ2 := fun w => join_any x y m w hx hy hm
    have hJ3 := fun w => refJoin_any x y m w hx hy hm
    generalize PM.R PM.g 32 (PM.C x (2 ^ (8 * m))) ^^^ y = z at *
    go_wp2_with (first | (go_at_call 15; refine hB.mono ?_; rintro e w5 ⟨rfl, rfl⟩) | (go_at_call 24; refine (hJ2 _).mono ?_; rintro e w6 ⟨rfl, rfl⟩))
    refine (hJ3 _).mono ?_
    rintro e w7 ⟨rfl, hbel7⟩
    go_wp2_with fail
    go_ret
    exact ⟨ret_bool (by simp), below_all hbel4 hsz4 hbel7⟩
theorem crcJoins_walk (a0 : Option Addr) (len0 cap0 : Nat) (z0 : List Int) (a1 : Option Addr) (len1 cap1 : Nat) (z1 : List Int) (a2 : Int) (a3 : Int) (a4 : Int) (w : World) (w0 : BRow .u8 w a0 len0 cap0 z0) (w1 : BRow .u8 w a1 len1 cap1 z1) (w2 : (Lit.int .u32 a2).wf = true) (w3 : (Lit.int .u32 a3).wf = true) (w4 : (Lit.int .i64 a4).wf = true) :
    Calls Try.prog 7 #[.slice a0 len0 cap0, .slice a1 len1 cap1, .int .u32 a2, .int .u32 a3, .int .i64 a4] w fun e w' => e = .returned (.bool true) ∧ Below w.heap.size w w' := by
  obtain ⟨x, rfl, hx⟩ := nat32' w2
  obtain ⟨y, rfl, hy⟩ := nat32' w3
  have hn := bounds_i64 w4
  by_cases h : len0 ≤ 4000 ∧ len1 ≤ 4000
  · exact crcJoins_any a0 len0 cap0 a1 len1 cap1 x y a4 _ _ w w0.row8 w1.row8 h.1 h.2 hx hy (by omega)
  · exact crcJoins_long a0 len0 cap0 a1 len1 cap1 x y a4 w w0.len_le w1.len_le (by omega)

end Go.Proofs.Ytlnfkgnlagadaaa
