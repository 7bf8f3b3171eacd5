/- What each function of package poly answers, said of natural numbers. -/
import Derived.Test.YtboeefphjjgbpaaBits
namespace Go.Proofs.Ytboeefphjjgbpaa
open Go.RowKit


end Go.Proofs.Ytboeefphjjgbpaa
