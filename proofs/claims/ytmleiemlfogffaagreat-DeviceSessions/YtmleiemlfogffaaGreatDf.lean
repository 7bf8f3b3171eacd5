/- Two ends that look the same. -/
import Derived.Test.YtmleiemlfogffaaGreatDe
namespace Go.Proofs.YtmleiemlfogffaaGreat
set_option maxRecDepth 100000
open Go.RowKit

theorem build0D (w : World) : (Instr.buildSlice 25 0 #[]).run Tryz.prog w = .ok (.slice (some ⟨w.heap.size, 0, none⟩) 0 0) (w.alloc (.cells #[] 5)) := by kernel_rfl
theorem own0D (B : Nat) (bs : Nat → Nat) (w : World) (h : B ≤ w.heap.size) : (w.alloc (.cells #[] 5)).ownsRow B 5 1 (.slice (some ⟨w.heap.size, 0, none⟩) 0 0) 0 (CB bs 0) := World.ownsRow_made w #[] 0 h (Nat.zero_le _) rfl
set_option maxHeartbeats 6400000 in
theorem same13_any (st ss nm sn dc lat : Int) (rq on : Bool) (a a' : Option Addr) (n n' cap cap' : Nat) (bs bs' : Nat → Nat) (w : World) (R : Row8 w a n cap bs) (R' : Row8 w a' n' cap' bs') (hX : BA bs n = BA bs' n') :
    Calls Tryz.prog 26 #[.agg #[.int .i64 st, .int .u32 ss, .int .u32 nm, .int .u32 sn, .int .i64 dc, .int .i64 lat, .bool rq, .bool on, .slice a n cap], .agg #[.int .i64 st, .int .u32 ss, .int .u32 nm, .int .u32 sn, .int .i64 dc, .int .i64 lat, .bool rq, .bool on, .slice a' n' cap']] w fun e w' => e = .returned (.bool true) ∧ Below w.heap.size w w' := by
  have b0 : Below w.heap.size w ((w.alloc (.cells #[.int .i64 st, .int .u32 ss, .int .u32 nm, .int .u32 sn, .int .i64 dc, .int .i64 lat, .bool rq, .bool on, .slice a n cap] 51)).alloc (.cells #[.int .i64 st, .int .u32 ss, .int .u32 nm, .int .u32 sn, .int .i64 dc, .int .i64 lat, .bool rq, .bool on, .slice a' n' cap'] 51)) := ((Below.refl _ _).alloc (Nat.le_refl _) _).alloc (by simp) _
  obtain ⟨X, hX1⟩ : ∃ X, BA bs n = X := ⟨_, rfl⟩
  have hX2 : BA bs' n' = X := hX ▸ hX1
  have q1 := conv_any a n cap bs _ (R.below b0)
  have q2 := conv_any a' n' cap' bs' _ (R'.below b0)
  rw [hX1] at q1
  rw [hX2] at q2
  have HB : Hid (_) := b0
  clear R R' hX hX1 hX2 b0
  go_enter Tryz.func26, Tryz.ntmps26
  go_wp2_with fail
  go_ret
  exact ⟨by simp, HB.out⟩

end Go.Proofs.YtmleiemlfogffaaGreat
