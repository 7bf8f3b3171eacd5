/- Layer 5: flags by themselves; sums. -/
import Derived.Test.YtejjhenkhleibaaMeter3
import Derived.Test.YtejjhenkhleibaaRowv
namespace Go.Proofs.Ytejjhenkhleibaa
open Go.RowKit

theorem natU32 {z : Int} (h : (Lit.int .u32 z).wf = true) : ∃ x : Nat, z = (x : Int) ∧ x < 4294967296 := by
  have := bounds_u32 h
  exact ⟨z.toNat, by omega, by omega⟩
theorem notU32 (c : Nat) (hc : c < 4294967296) : bits .xor .u32 IntKind.u32.max (c : Int) = ((4294967295 - c : Nat) : Int) := by
  have h := u32_xor_nat 4294967295 c (by omega) hc
  have e : 4294967295 ^^^ c = 4294967295 - c := by
    have := BitVec.toNat_not (x := BitVec.ofNat 32 c)
    rw [← BitVec.allOnes_xor, BitVec.toNat_xor] at this
    simp [Nat.mod_eq_of_lt hc] at this
    omega
  rw [e] at h
  exact h
theorem and_full (d : Nat) (hd : d < 4294967296) : d &&& 4294967295 = d := by
  have := Nat.and_two_pow_sub_one_eq_mod d 32
  rw [show 2 ^ 32 - 1 = 4294967295 from rfl] at this
  rw [this]
  exact Nat.mod_eq_of_lt hd
set_option maxHeartbeats 1000000 in
theorem flags_core (A B C O D : Int) (w : World) (h1 : bits .or .u32 0 A = A) (h2 : bits .or .u32 A B = O) (h3 : bits .and .u32 O (bits .xor .u32 IntKind.u32.max C) = D) (h4 : bits .andNot .u32 O C = D)
    (h5 : bits .or .u32 D 0 = D) (h6 : bits .and .u32 D (bits .xor .u32 IntKind.u32.max 0) = D) :
    Calls Try.prog 6 #[.int .u32 A, .int .u32 B, .int .u32 C] w fun e w' => e = .returned (.bool true) ∧ Below w.heap.size w w' := by
  have hnw := new_any
  have haw := awake5 w
  go_enter Try.func6, Try.ntmps6
  go_wp2_with fail
  refine haw.mono ?_
  rintro e w0 ⟨rfl, hb0⟩
  go_wp2_with fail
  refine (hnw w0).mono ?_
  rintro e w1 ⟨rfl, hw1⟩
  have m1 := new_met w0
  have hb1 := hb0.alloc hb0.size (.cells (MC 0 none 0 0 none) 76)
  rw [← hw1] at m1 hb1
  have hle := hb0.size
  clear hw1 hnw haw hb0
  generalize w0.heap.size = g at *
  have m2 := m1.s2 A
  have m3 := m2.s2 O
  have m4 := m3.s2 D
  have m5 := m4.s2 D
  have hb5 := ((((hb1.setCell (p := ⟨g, 2, none⟩) hle (.int .u32 A)).setCell (p := ⟨g, 2, none⟩) hle (.int .u32 O)).setCell (p := ⟨g, 2, none⟩) hle (.int .u32 D)).setCell (p := ⟨g, 2, none⟩) hle (.int .u32 D)).setCell (p := ⟨g, 2, none⟩) hle (.int .u32 D)
  have q1 := set_any _ _ _ _ _ _ A A _ m1 h1
  have q2 := set_any _ _ _ _ _ _ B O _ m2 h2
  have q3 := clear_any _ _ _ _ _ _ C D _ m3 h3
  have q4 := flags_any _ _ _ _ _ _ _ m4
  have q5 := set_any _ _ _ _ _ _ 0 D _ m4 h5
  have q6 := clear_any _ _ _ _ _ _ 0 D _ m5 h6
  clear m1 m2 m3 m4 m5 hb1 h1 h3 h5 h6 hle
  generalize hx2 : w1.setCell ⟨g, 2, none⟩ (.int .u32 A) = w2 at *
  generalize hx3 : w2.setCell ⟨g, 2, none⟩ (.int .u32 O) = w3 at *
  generalize hx4 : w3.setCell ⟨g, 2, none⟩ (.int .u32 D) = w4 at *
  generalize hx5 : w4.setCell ⟨g, 2, none⟩ (.int .u32 D) = w5 at *
  generalize hx6 : w5.setCell ⟨g, 2, none⟩ (.int .u32 D) = w6 at *
  clear hx2 hx3 hx4 hx5 hx6
  go_wp2_with fail
  refine q1.mono ?_
  rintro e w' ⟨rfl, rfl⟩
  clear q1
  go_wp2_with fail
  refine q2.mono ?_
  rintro e w' ⟨rfl, rfl⟩
  clear q2
  go_wp2_with fail
  refine q3.mono ?_
  rintro e w' ⟨rfl, rfl⟩
  clear q3
  go_wp2_with fail
  refine q4.mono ?_
  rintro e w' ⟨rfl, rfl⟩
  clear q4
  go_wp2_with fail
  refine q5.mono ?_
  rintro e w' ⟨rfl, rfl⟩
  clear q5
  go_wp2_with fail
  refine q6.mono ?_
  rintro e w' ⟨rfl, rfl⟩
  clear q6
  go_wp2_with fail
  go_ret
  exact ⟨by simp, hb5⟩
theorem meterFlags_walk (a0 : Int) (a1 : Int) (a2 : Int) (w0 : (Lit.int .u32 a0).wf = true) (w1 : (Lit.int .u32 a1).wf = true) (w2 : (Lit.int .u32 a2).wf = true) (w : World) :
    Calls Try.prog 6 #[.int .u32 a0, .int .u32 a1, .int .u32 a2] w fun e w' => e = .returned (.bool true) ∧ Below w.heap.size w w' := by
  obtain ⟨A, rfl, hA⟩ := natU32 w0
  obtain ⟨B, rfl, hB⟩ := natU32 w1
  obtain ⟨C, rfl, hC⟩ := natU32 w2
  have hO : A ||| B < 4294967296 := Nat.or_lt_two_pow (n := 32) hA hB
  have hD : (A ||| B) &&& (4294967295 - C) < 4294967296 := Nat.lt_of_le_of_lt Nat.and_le_left hO
  refine flags_core A B C ((A ||| B : Nat) : Int) (((A ||| B) &&& (4294967295 - C) : Nat) : Int) w ?_ (u32_or_nat A B hA hB) ?_ (u32_andNot_nat _ C hO hC) ?_ ?_
  · have := u32_or_nat 0 A (by omega) hA
    simpa using this
  · rw [notU32 C hC]
    exact u32_and_nat _ _ hO (by omega)
  · have := u32_or_nat ((A ||| B) &&& (4294967295 - C)) 0 hD (by omega)
    rw [Nat.or_zero] at this
    exact this
  · have h0 := notU32 0 (by omega)
    have := u32_and_nat ((A ||| B) &&& (4294967295 - C)) 4294967295 hD (by omega)
    rw [and_full _ hD] at this
    rw [show (0 : Int) = ((0 : Nat) : Int) from rfl, h0]
    exact this

end Go.Proofs.Ytejjhenkhleibaa
