/- Part 31 of the texts on which the proof rests: contracts of Go functions. -/
import Derived.Test.YtpbcgpdfjplidaaGreatPkN29
namespace Go.Proofs.YtpbcgpdfjplidaaGreat
set_option maxRecDepth 100000
open Go.RowKit
theorem opS_off {mx n : Nat} {s : Ms} (hl : 0 ≤ s.l) (h : opE mx n s = 0) : (opS mx n s).off = false := by
  unfold opE at h
  unfold opS
  by_cases h1 : mx = 0 ∨ n < 10
  · rw [if_pos h1] at h; omega
  · rw [if_neg h1] at h ⊢
    by_cases h2 : s.off = true
    · rw [if_pos h2] at h; omega
    · rw [if_neg h2] at h ⊢
      rcases sq_all n (mend s.bs) s (fun x hx => (mend_in s.bs n (by omega) x hx).1) (by simpa using h2) hl with ⟨_, e, _⟩ | ⟨e, _⟩
      · rw [e]
      · omega
end Go.Proofs.YtpbcgpdfjplidaaGreat
