/- What each function of package poly answers, said of natural numbers. -/
import Derived.Test.YtmleiemlfogffaaGreatBits
namespace Go.Proofs.YtmleiemlfogffaaGreat
set_option maxRecDepth 100000
open Go.RowKit


end Go.Proofs.YtmleiemlfogffaaGreat
