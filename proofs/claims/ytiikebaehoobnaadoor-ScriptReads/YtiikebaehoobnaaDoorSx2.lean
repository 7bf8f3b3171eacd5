/- Layer 20: the document's Head of any words. -/
import Derived.Test.YtiikebaehoobnaaDoorSx1
import Derived.Test.YtiikebaehoobnaaDoorSw6h
import Derived.Test.YtiikebaehoobnaaDoorSw6d
namespace Go.Proofs.YtiikebaehoobnaaDoor
set_option maxRecDepth 100000
open Go.RowKit Go.Maps
set_option maxRecDepth 100000
set_option linter.unusedVariables false
theorem rhead (Z : Nt) (hz0 : Z.l0 ≤ 1000000) (hz1 : Z.l1 ≤ 1000000) (a0 a1 : Option Addr) (c0 c1 : Nat) (n0 : a0 = none → Z.l0 = 0 ∧ c0 = 0) (n1 : a1 = none → Z.l1 = 0 ∧ c1 = 0) (aw : Option Addr) (N C : Nat) (L : Nat → List UInt8) (w : World) (h0 : PRow w a0 Z.l0 Z.P0) (h1 : PRow w a1 Z.l1 Z.P1) (h : WsRow w aw N L) : Calls Tryd.prog 18 #[.agg #[.slice a0 Z.l0 c0, .slice a1 Z.l1 c1, .int .u32 (Z.ms : Nat)], .slice aw N C] w (HrP (Z.hd N L) (hdIs N L) (hdEr N L) w) := by
  by_cases hh : hdIs N L = true
  · have hW := hh
    unfold hdIs at hW
    simp only [Bool.and_eq_true, decide_eq_true_eq] at hW
    obtain ⟨g, o, rfl, _⟩ := h 0 hW.1
    unfold Nt.hd hdEr
    rw [if_pos hh, if_pos hh, hh]
    have hd := hW.2
    unfold hdW at hd
    simp only [Bool.or_eq_true, beq_iff_eq] at hd
    rcases hd with (e | e) | e
    · exact rhead_net Z a0 a1 c0 c1 n0 n1 g o N (N - 1) C (by omega) L e w h0 h1 h.at_
    · exact rhead_host Z hz0 a0 a1 c0 c1 n0 n1 g o N (N - 1) C (by omega) L e w h0 h1 h.at_
    · exact rhead_device Z hz1 a0 a1 c0 c1 n0 n1 g o N (N - 1) C (by omega) L e w h0 h1 h.at_
  · have hf : hdIs N L = false := by simpa using hh
    unfold Nt.hd hdEr
    rw [if_neg hh, if_neg hh, hf]
    exact rhead_no Z a0 a1 c0 c1 n0 n1 aw N C L w h0 h1 h hf
end Go.Proofs.YtiikebaehoobnaaDoor
