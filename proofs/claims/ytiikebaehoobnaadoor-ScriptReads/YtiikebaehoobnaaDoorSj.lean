/- Layer 20: the document's fault. (gensj.py) -/
import Derived.Test.YtiikebaehoobnaaDoorSi
namespace Go.Proofs.YtiikebaehoobnaaDoor
set_option maxRecDepth 100000
open Go.RowKit Go.Maps
set_option maxRecDepth 100000
set_option linter.unusedSimpArgs false
set_option linter.unusedVariables false
theorem fit_w {m : Mv} (h : m.Ok) : fitI ((m.w : Nat) : Int) = true := by
  have := h.w
  unfold fitI
  simp
  omega
end Go.Proofs.YtiikebaehoobnaaDoor
