/- More of package crc without tables, and the reference's answers: sealed lists, joined checks. -/
import Derived.Test.YtohhidnockmkaaaCrc
namespace Go.Proofs.Ytohhidnockmkaaa
open Go.RowKit

theorem row4 (w : World) (x : Nat) (hx : x < 4294967296) :
    Row8 (w.alloc (.cells #[.int .u8 ((x : Int) / 16777216), .int .u8 ((x : Int) / 65536 % 256), .int .u8 ((x : Int) / 256 % 256), .int .u8 ((x : Int) % 256)] 5)) (some ⟨w.heap.size, 0, none⟩) 4 4 (PM.w4 x) := by
  refine row8_new w _ _ (PM.w4 x) 4 (fun i _ => PM.w4_lt x i) (fun i hi => ?_)
  have e0 : (x : Int) / 16777216 = ((PM.w4 x 0 : Nat) : Int) := by show _ = ((x / 16777216 % 256 : Nat) : Int); omega
  have e1 : (x : Int) / 65536 % 256 = ((PM.w4 x 1 : Nat) : Int) := by show _ = ((x / 65536 % 256 : Nat) : Int); omega
  have e2 : (x : Int) / 256 % 256 = ((PM.w4 x 2 : Nat) : Int) := by show _ = ((x / 256 % 256 : Nat) : Int); omega
  have e3 : (x : Int) % 256 = ((PM.w4 x 3 : Nat) : Int) := by show _ = ((x % 256 : Nat) : Int); omega
  rw [e0, e1, e2, e3]
  rcases (show i = 0 ∨ i = 1 ∨ i = 2 ∨ i = 3 by omega) with rfl | rfl | rfl | rfl <;> rfl
set_option maxRecDepth 100000 in
set_option maxHeartbeats 1000000 in
theorem seal_row (a : Option Addr) (len cap : Nat) (bs : Nat → Nat) (w : World) (hr : Row8 w a len cap bs) (hlen : len ≤ 1000000) :
    Calls Try.prog 19 #[.slice a len cap] w fun e w' => ∃ v, e = .returned v ∧ w'.ownsRow w.heap.size 5 1 v (len + 4) (CB (PM.sl bs len) (len + 4)) ∧ Below w.heap.size w w' := by
  obtain ⟨i0, hi, hz0, hz1, hz2⟩ := info_parts info_u8
  have hk := PM.K_lt bs len
  go_enter Try.func19, Try.ntmps19
  go_wp2_with (at_make; refine wpList_make8 _ rfl (.tmp 6) (.tmp 9) 31 rfl w.heap.size 5 i0 Try.underlying31 hi hz0 hz1 hz2 _ _ _ _ len (len + 4) rfl rfl rfl ?b1 (by omega) (by omega) ?b2 ?_)
  case b1 => omega
  case b2 => exact Nat.le_refl _
  intro w1 hown1 hbel1
  have R1 := hr.below hbel1
  go_wp2_with (refine wpList_copy8 rfl (.tmp 11) (.tmp 12) 31 31 rfl 5 Try.underlying31 size_u8 w.heap.size w.heap.size len (len + 4) _ rfl hown1 a len cap bs rfl R1 w hbel1 ?_)
  intro w2 hown2 hbel2
  rw [CB_congr _ bs len (fun i hi => if_pos hi)] at hown2
  have R2 := hr.below hbel2
  have hB := cbits_row a len cap bs w2 R2 (by omega)
  have hsz2 := hbel2.size
  have hown3 := hown2.alloc (.cells #[.int .u8 ((PM.K bs len : Int) / 16777216), .int .u8 ((PM.K bs len : Int) / 65536 % 256), .int .u8 ((PM.K bs len : Int) / 256 % 256), .int .u8 ((PM.K bs len : Int) % 256)] 5)
  have hbel3 := hbel2.alloc hsz2 (.cells #[.int .u8 ((PM.K bs len : Int) / 16777216), .int .u8 ((PM.K bs len : Int) / 65536 % 256), .int .u8 ((PM.K bs len : Int) / 256 % 256), .int .u8 ((PM.K bs len : Int) % 256)] 5)
  have R4 := row4 w2 (PM.K bs len) hk
  have hsz3 := hbel3.size
  have HS : Hid (CB bs len ++ CB (PM.w4 (PM.K bs len)) 4 = CB (PM.sl bs len) (len + 4)) := CB_append _ _ _ _
  clear hown1 hown2 hbel1 hbel2 R1 R2
  generalize PM.K bs len = k at *
  go_wp2_with (first | (go_at_call 34; refine hB.mono ?_; rintro e w' ⟨rfl, rfl⟩) | (at_builtin; refine wpList_append_row8 rfl (.tmp 16) (.tmp 28) 31 rfl w.heap.size 5 i0 (.int .u8 0) Try.underlying31 hi hz0 hz1 hz2 rfl _ len _ rfl hown3 (some ⟨w'.heap.size, 0, none⟩) 4 4 (PM.w4 k) rfl R4 (by unfold maxLen; omega) (by omega) hsz3 ?_))
  intro v w4 hown4 hgrow4
  have hbel4 : Below w.heap.size w w4 := hbel3.grown hgrow4 hsz3 (fun j hj => (hown3.lt j hj).1)
  rw [HS.out] at hown4
  clear hown3 hgrow4 hbel3 R4
  go_wp2
  go_ret
  exact ⟨_, rfl, hown4, hbel4⟩

end Go.Proofs.Ytohhidnockmkaaa
