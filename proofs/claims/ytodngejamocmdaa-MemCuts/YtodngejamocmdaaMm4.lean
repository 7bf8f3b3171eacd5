/- Layer 7: the fixed fact. -/
import Derived.Test.YtodngejamocmdaaMm3
import Derived.Test.YtodngejamocmdaaStrs
namespace Go.Proofs.Ytodngejamocmdaa
open Go.RowKit

set_option maxRecDepth 100000 in
set_option maxHeartbeats 2000000 in
theorem awake7 (w : World) :
    Calls Try.prog 7 #[] w fun e w' => e = .returned (.bool true) ∧ Below w.heap.size w w' := by
  go_enter Try.func7, Try.ntmps7
  go_wp2_with fail
  refine (new_ok 3 w (by omega)).mono ?_
  rintro e w1 ⟨b, g, rfl, H1⟩
  obtain ⟨hb, hg, o1, m1⟩ := H1.out
  have b1 : Below w.heap.size w w1 := o1.below (Below.refl _ _) (by simp) (Nat.le_refl _)
  have HB : Hid (_) := And.intro hb hg
  clear H1 o1 hb hg
  go_wp2_with fail
  refine (arm_any b g 3 _ 1 w1 m1 (by omega)).mono ?_
  rintro e w2 ⟨rfl, o2, m2⟩
  have b2 : Below w.heap.size w w2 := o2.below b1 (by have := HB.out; simp; omega) b1.size
  clear o2 m1 b1
  rw [show arE 1 = 0 from rfl]
  rw [show arS (S0 fun _ => 0) 1 = ⟨fun _ => 0, false, true, 1, 0⟩ from rfl] at m2
  go_wp2_with fail
  refine (write_any b g 3 _ 0 7 w2 m2 (by omega) (by show (0 : Int) < _; omega)).mono ?_
  rintro e w3 ⟨rfl, o3, m3⟩
  have b3 : Below w.heap.size w w3 := o3.below b2 (by have := HB.out; simp; omega) b2.size
  clear o3 m2 b2
  rw [show wrE ⟨fun _ => 0, false, true, 1, 0⟩ 3 0 = 0 from rfl]
  rw [show wrS ⟨fun _ => 0, false, true, 1, 0⟩ 3 0 7 = ⟨lay (fun _ => 0) 0 7, false, true, 0, 1⟩ from rfl] at m3
  go_wp2_with fail
  refine (write_any b g 3 _ 1 8 w3 m3 (by omega) (by show (1 : Int) < _; omega)).mono ?_
  rintro e w4 ⟨rfl, o4, m4⟩
  have b4 : Below w.heap.size w w4 := o4.below b3 (by have := HB.out; simp; omega) b3.size
  clear o4 m3 b3
  rw [show wrE ⟨lay (fun _ => 0) 0 7, false, true, 0, 1⟩ 3 1 = 70 from rfl]
  rw [show wrS ⟨lay (fun _ => 0) 0 7, false, true, 0, 1⟩ 3 1 8 = ⟨lay (fun _ => 0) 0 7, true, true, 0, 1⟩ from rfl] at m4
  have qO := off_any b g 3 _ w4 m4
  go_wp2_with (go_at_call 16; refine qO.mono ?_; rintro e w' ⟨rfl, hw⟩; rw [hw]; clear hw)
  refine (bytes_any b g 3 _ w4 m4).mono ?_
  rintro e w5 ⟨v, rfl, H5⟩
  obtain ⟨a, cap, rfl, R⟩ := own_row8 H5.out.1 (fun i hi => m4.byte i hi)
  have hc := conv_any a 3 cap _ w5 R
  have hB : BA (lay (fun _ => 0) 0 7) 3 = { data := #[7, 0, 0] } := by decide
  rw [hB] at hc
  have b5 : Below w.heap.size w w5 := b4.trans (H5.out.2.mono b4.size)
  clear R H5 b4 m4 qO hB
  go_wp2_with fail
  go_ret
  exact ⟨rfl, b5⟩

end Go.Proofs.Ytodngejamocmdaa
