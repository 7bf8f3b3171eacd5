/- The reference's Sum, Word and Seal; the statements' Awake. -/
import Derived.Test.YtmleiemlfogffaaGreatCrc2
import Derived.Lib.SlBytesConst
namespace Go.Proofs.YtmleiemlfogffaaGreat
set_option maxRecDepth 100000
open Go.RowKit

theorem refOfG (a : Option Addr) (len cap : Nat) (bs : Nat → Nat) (w : World) (hr : Row8 w a len cap bs) (hlen : len ≤ 1000000) :
    Calls Tryz.prog 105 #[.slice a len cap, .int .u64 4812730177] w fun e w' => e = .returned (.tuple #[.int .u64 (PM.R PM.g 32 (PM.V (PM.fb bs) (8 * len)) : Nat), .int .i64 0]) ∧ Below w.heap.size w w' := by
  have h := refOf_row a len cap 4812730177 bs w hr hlen (by decide) (by decide)
  rw [log2_g] at h
  exact h
theorem row4z (w : World) : Row8 (w.alloc (.cells #[.int .u8 0, .int .u8 0, .int .u8 0, .int .u8 0] 5)) (some ⟨w.heap.size, 0, none⟩) 4 4 (fun _ => 0) := by
  refine row8_new w _ _ (fun _ => 0) 4 (fun i _ => by omega) (fun i hi => ?_)
  rcases (show i = 0 ∨ i = 1 ∨ i = 2 ∨ i = 3 by omega) with rfl | rfl | rfl | rfl <;> rfl
theorem V_zeros (bs : Nat → Nat) (n : Nat) : PM.V (PM.fb (PM.ct bs (fun _ => 0) n)) (8 * (n + 4)) = PM.C (PM.V (PM.fb bs) (8 * n)) (2 ^ 32) := by
  rw [PM.V_ct, PM.V_bytes_zero, Nat.xor_zero]
set_option maxRecDepth 100000 in
set_option maxHeartbeats 1000000 in
theorem refSum_row (a : Option Addr) (len cap : Nat) (bs : Nat → Nat) (w : World) (hr : Row8 w a len cap bs) (hlen : len ≤ 900000) :
    Calls Tryz.prog 66 #[.slice a len cap] w fun e w' => e = .returned (.int .u32 (PM.K bs len : Nat)) ∧ Below w.heap.size w w' := by
  obtain ⟨i0, hi, hz0, hz1, hz2⟩ := info_parts info_u8
  have hk := PM.K_lt bs len
  obtain ⟨k, hK⟩ : ∃ k, k = PM.K bs len := ⟨_, rfl⟩
  rw [← hK] at hk ⊢
  have HK : Hid (k = PM.K bs len) := hK
  clear hK
  go_enter Tryz.func66, Tryz.ntmps66
  go_wp2_with (at_make; refine wpList_make8 _ rfl (.const (.int .i64 0)) (.tmp 8) 25 rfl w.heap.size 5 i0 Tryz.underlying25 hi hz0 hz1 hz2 _ _ _ _ 0 (len + 4) rfl rfl rfl ?b1 (by omega) (by omega) ?b2 ?_)
  case b1 => omega
  case b2 => exact Nat.le_refl _
  intro w1 hown1 hbel1
  have R1 := hr.below hbel1
  have hsz1 := hbel1.size
  go_wp2_with (at_builtin; refine wpList_append_row8 rfl (.tmp 9) (.tmp 10) 25 rfl w.heap.size 5 i0 (.int .u8 0) Tryz.underlying25 hi hz0 hz1 hz2 rfl _ _ _ rfl hown1 a len cap bs rfl R1 (by unfold maxLen; omega) (by omega) hsz1 ?_)
  intro v2 w2 hown2 hgrow2
  have hbel2 : Below w.heap.size w w2 := hbel1.grown hgrow2 hsz1 (fun j hj => (hown1.lt j hj).1)
  rw [CB_append] at hown2
  have hsz2 := hbel2.size
  have hown3 := hown2.alloc (.cells #[.int .u8 0, .int .u8 0, .int .u8 0, .int .u8 0] 5)
  have hbel3 := hbel2.alloc hsz2 (.cells #[.int .u8 0, .int .u8 0, .int .u8 0, .int .u8 0] 5)
  have R4 := row4z w2
  have hsz3 := hbel3.size
  clear hgrow2 hown1 hbel1 R1 hown2 hbel2
  go_wp2_with (at_builtin; refine wpList_append_row8 rfl (.tmp 11) (.tmp 12) 25 rfl w.heap.size 5 i0 (.int .u8 0) Tryz.underlying25 hi hz0 hz1 hz2 rfl _ _ _ rfl hown3 (some ⟨w2.heap.size, 0, none⟩) 4 4 (fun _ => 0) rfl R4 (by unfold maxLen; omega) (by omega) hsz3 ?_)
  intro v4 w4 hown4 hgrow4
  have hbel4 : Below w.heap.size w w4 := hbel3.grown hgrow4 hsz3 (fun j hj => (hown3.lt j hj).1)
  have hct : ∀ i, i < len + 4 → PM.ct bs (fun _ => 0) len i < 256 := PM.ct_lt (k := 4) hr.byte (fun i _ => by omega)
  have hown5 : w4.ownsRow w.heap.size 5 1 v4 (len + 4) (CB (PM.ct bs (fun _ => 0) len) (len + 4)) := by
    have h := hown4
    rw [CB_append] at h
    rw [CB_congr (PM.ct bs (fun _ => 0) len) _ (len + 4) (fun i _ => ?_)]
    · exact h
    · unfold PM.ct
      by_cases hlt : i < len
      · simp [hlt]
      · simp [hlt]
  obtain ⟨av, cv, rfl, R5⟩ := own_row8 hown5 hct
  have hO := refOfG av (len + 4) cv _ w4 R5 (by omega)
  rw [V_zeros] at hO
  clear hown3 hgrow4 hbel3 R4 hown4 hown5 R5 hct
  change Calls _ _ _ _ fun e w' => e = .returned (.tuple #[.int .u64 (PM.K bs len : Nat), .int .i64 0]) ∧ Below w4.heap.size w4 w' at hO
  rw [← HK.out] at hO
  have hsz4 := hbel4.size
  go_wp2_with fail
  refine hO.mono ?_
  rintro e w6 ⟨rfl, hbel6⟩
  go_wp2_with fail
  go_ret
  exact ⟨rfl, below_all hbel4 hsz4 hbel6⟩
set_option maxHeartbeats 1000000 in
theorem refWord_any (x : Nat) (w : World) (hx : x < 4294967296) :
    Calls Tryz.prog 65 #[.int .u32 x] w fun e w' => e = .returned (.slice (some ⟨w.heap.size, 0, none⟩) 4 4) ∧ w' = w.alloc (.cells #[.int .u8 ((x : Int) / 16777216), .int .u8 ((x : Int) / 65536 % 256), .int .u8 ((x : Int) / 256 % 256), .int .u8 ((x : Int) % 256)] 5) := by
  go_enter Tryz.func65, Tryz.ntmps65
  go_wp2
  go_ret
  exact ⟨rfl, rfl⟩
set_option maxRecDepth 100000 in
set_option maxHeartbeats 1000000 in
theorem refSeal_row (a : Option Addr) (len cap : Nat) (bs : Nat → Nat) (w : World) (hr : Row8 w a len cap bs) (hlen : len ≤ 900000) :
    Calls Tryz.prog 98 #[.slice a len cap] w fun e w' => ∃ v, e = .returned v ∧ w'.ownsRow w.heap.size 5 1 v (len + 4) (CB (PM.sl bs len) (len + 4)) ∧ Below w.heap.size w w' := by
  obtain ⟨i0, hi, hz0, hz1, hz2⟩ := info_parts info_u8
  have hk := PM.K_lt bs len
  have hbd := build0
  have hbelA : Below w.heap.size w (w.alloc (.cells #[] 5)) := (Below.refl _ _).alloc (Nat.le_refl _) _
  have R0 := hr.below hbelA
  have O0 : (w.alloc (.cells #[] 5)).ownsRow w.heap.size 5 1 (.slice (some ⟨w.heap.size, 0, none⟩) 0 0) 0 (CB bs 0) := World.ownsRow_made w #[] 0 (Nat.le_refl _) (Nat.zero_le _) rfl
  have hszA := hbelA.size
  go_enter Tryz.func98, Tryz.ntmps98
  go_wp2_with (at_builtin; refine wpList_append_row8 rfl (.tmp 3) (.tmp 4) 25 rfl w.heap.size 5 i0 (.int .u8 0) Tryz.underlying25 hi hz0 hz1 hz2 rfl _ 0 _ rfl O0 a len cap bs rfl R0 (by unfold maxLen; omega) (by omega) hszA ?_)
  intro v1 w1 hown1 hgrow1
  have hbel1 : Below w.heap.size w w1 := hbelA.grown hgrow1 hszA (fun k hk => (O0.lt k hk).1)
  rw [show CB bs 0 = [] from rfl, List.nil_append] at hown1
  have hS := refSum_row a len cap bs w1 (hr.below hbel1) hlen
  have hsz1 := hbel1.size
  clear hgrow1 O0 R0 hbelA
  go_wp2_with fail
  refine hS.mono ?_
  rintro e w2 ⟨rfl, hbel2⟩
  have hown2 := own_below hown1 hbel2
  have hbel3 := below_all hbel1 hsz1 hbel2
  have hsz3 := hbel3.size
  have HS : Hid (CB bs len ++ CB (PM.w4 (PM.K bs len)) 4 = CB (PM.sl bs len) (len + 4)) := CB_append _ _ _ _
  generalize PM.K bs len = k at *
  go_wp2_with fail
  refine (refWord_any k w2 hk).mono ?_
  rintro e w3 ⟨rfl, rfl⟩
  have R4 := row4 w2 k hk
  have hown4 := hown2.alloc (.cells #[.int .u8 ((k : Int) / 16777216), .int .u8 ((k : Int) / 65536 % 256), .int .u8 ((k : Int) / 256 % 256), .int .u8 ((k : Int) % 256)] 5)
  have hbel4 := hbel3.alloc hsz3 (.cells #[.int .u8 ((k : Int) / 16777216), .int .u8 ((k : Int) / 65536 % 256), .int .u8 ((k : Int) / 256 % 256), .int .u8 ((k : Int) % 256)] 5)
  have hsz4 := hbel4.size
  clear hown1 hown2 hbel1 hbel2 hbel3
  go_wp2_with (at_builtin; refine wpList_append_row8 rfl (.tmp 5) (.tmp 8) 25 rfl w.heap.size 5 i0 (.int .u8 0) Tryz.underlying25 hi hz0 hz1 hz2 rfl _ len _ rfl hown4 (some ⟨w2.heap.size, 0, none⟩) 4 4 (PM.w4 k) rfl R4 (by unfold maxLen; omega) (by omega) hsz4 ?_)
  intro v5 w5 hown5 hgrow5
  have hbel5 : Below w.heap.size w w5 := hbel4.grown hgrow5 hsz4 (fun j hj => (hown4.lt j hj).1)
  rw [HS.out] at hown5
  clear hown4 hgrow5 hbel4 R4
  go_wp2
  go_ret
  exact ⟨_, rfl, hown5, hbel5⟩

end Go.Proofs.YtmleiemlfogffaaGreat
