/- Lawful, Size, Encode of the program; a unit with its own data. -/
import Derived.Test.YtmleiemlfogffaaGreatUFault
import Derived.Test.YtmleiemlfogffaaGreatCSeal
import Derived.Test.YtmleiemlfogffaaGreatOwn
import Derived.Deep.RegionLaw
namespace Go.Proofs.YtmleiemlfogffaaGreat
set_option maxRecDepth 100000
open Go.RowKit
set_option maxRecDepth 100000 in
set_option maxHeartbeats 1000000 in
theorem lawful_any (k : Int) (c s n : Nat) (f : Int) (a : Option Addr) (len cap : Nat) (w : World) :
    Calls Tryz.prog 217 #[.agg #[.int .i64 k, .int .u32 c, .int .u32 s, .int .u32 n, .int .i64 f, .slice a len cap]] w fun e w' => e = .returned (.int .i64 (LW k c s n f len len)) ∧ Below w.heap.size w w' := by
  have hb : Below w.heap.size w (w.alloc (.cells #[.int .i64 k, .int .u32 c, .int .u32 s, .int .u32 n, .int .i64 f, .slice a len cap] 57)) := (Below.refl _ _).alloc (Nat.le_refl _) _
  have hF := fault_any k c s n f a len cap len (w.alloc (.cells #[.int .i64 k, .int .u32 c, .int .u32 s, .int .u32 n, .int .i64 f, .slice a len cap] 57))
  generalize LW k c s n f len len = E at *
  go_enter Tryz.func217, Tryz.ntmps217
  go_wp2_with fail
  refine hF.mono ?_
  rintro e w1 ⟨rfl, hb1⟩
  have hb2 := below_all hb hb.size hb1
  clear hb hF hb1
  go_wp2_with fail
  go_ret
  exact ⟨rfl, hb2⟩
set_option maxRecDepth 100000 in
set_option maxHeartbeats 1000000 in
theorem putWord_own (B g N cap off L C x : Nat) (F : Nat → Nat) (w0 w : World) (hown : w.ownsRow B 5 1 (.slice (some ⟨g, 0, none⟩) N cap) N (CB F N)) (hbel : Below B w0 w) (hBg : B ≤ g) (ho : off + 4 ≤ N) (hL : 4 ≤ L) :
    Calls Tryz.prog 218 #[.slice (some ⟨g, off, none⟩) L C, .int .u32 x] w fun e w' => e = .returned (.tuple #[]) ∧
      Hid (w'.ownsRow B 5 1 (.slice (some ⟨g, 0, none⟩) N cap) N (CB (fun i => if off ≤ i ∧ i < off + 4 then PM.w4 x (i - off) else F i) N) ∧ Below B w0 w') := by
  have e0 : (x : Int) / 16777216 % 256 = ((PM.w4 x 0 : Nat) : Int) := by show _ = ((x / 16777216 % 256 : Nat) : Int); omega
  have e1 : (x : Int) / 65536 % 256 = ((PM.w4 x 1 : Nat) : Int) := by show _ = ((x / 65536 % 256 : Nat) : Int); omega
  have e2 : (x : Int) / 256 % 256 = ((PM.w4 x 2 : Nat) : Int) := by show _ = ((x / 256 % 256 : Nat) : Int); omega
  have e3 : (x : Int) % 256 = ((PM.w4 x 3 : Nat) : Int) := by show _ = ((x % 256 : Nat) : Int); omega
  go_enter Tryz.func218, Tryz.ntmps218
  go_wp2_with fail
  go_loopw [4, 5] (fun _ c wr => ∃ i : Nat, i ≤ 4 ∧ c = .int .i64 i ∧ wr.ownsRow B 5 1 (.slice (some ⟨g, 0, none⟩) N cap) N (CB (fun j => if off ≤ j ∧ j < off + i then PM.w4 x (j - off) else F j) N) ∧ Below B w0 wr) (fun _ c _ => 4 - (intOf c).toNat)
  case atStart => exact ⟨0, by omega, rfl, by rw [CB_congr _ F N (fun i _ => if_neg (by omega))]; exact hown, hbel⟩
  case round =>
    clear hown hbel
    obtain ⟨i, hi, rfl, hown, hbel⟩ := hrel
    by_cases hlt : i < 4
    · have hcx := hown.cellAt (off + i) (by omega)
      rw [CB_get _ _ _ (show off + i < N by omega)] at hcx
      have hfx := hown.frozenAt (off + i)
      have hown3 := (hown.stored (off + i) (.int .u8 ((PM.w4 x i : Nat) : Int))).1
      rw [CB_set, CB_congr _ (fun j => if off ≤ j ∧ j < off + (i + 1) then PM.w4 x (j - off) else F j) N (fun j _ => by
        by_cases e : j = off + i
        · rw [if_pos e, if_pos (by omega), e, show off + i - off = i by omega]
        · rw [if_neg e]
          by_cases e2 : off ≤ j ∧ j < off + i
          · rw [if_pos e2, if_pos (by omega)]
          · rw [if_neg e2, if_neg (by omega)])] at hown3
      have hbel3 := hbel.setCell (p := ⟨g, off + i, none⟩) hBg (.int .u8 ((PM.w4 x i : Nat) : Int))
      have H3 : Hid (_) := And.intro hown3 hbel3
      clear hown hbel hown3 hbel3
      have hLI : (i : Int) < (L : Int) := by omega
      have hv : (x : Int) / 2 ^ (24 - 8 * i) % 256 = ((PM.w4 x i : Nat) : Int) := by
        rcases (show i = 0 ∨ i = 1 ∨ i = 2 ∨ i = 3 by omega) with rfl | rfl | rfl | rfl
        · exact e0
        · exact e1
        · exact e2
        · simpa using e3
      clear e0 e1 e2 e3
      generalize PM.w4 x i = y at *
      go_wp2_with fail
      go_roundw
      case rel => exact ⟨i + 1, by omega, by go_num, H3.out.1, H3.out.2⟩
      case measure => simp [intOf] <;> omega
    · obtain rfl : i = 4 := by omega
      have H3 : Hid (_) := And.intro hown hbel
      clear hown hbel
      go_wp2_with fail
      go_end0
      exact ⟨rfl, H3.out.1, H3.out.2⟩

end Go.Proofs.YtmleiemlfogffaaGreat
