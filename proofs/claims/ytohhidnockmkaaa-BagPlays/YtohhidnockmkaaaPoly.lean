/- What each function of package poly answers, said of natural numbers. -/
import Derived.Test.YtohhidnockmkaaaBits
namespace Go.Proofs.Ytohhidnockmkaaa
open Go.RowKit


end Go.Proofs.Ytohhidnockmkaaa
