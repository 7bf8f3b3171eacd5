/- What each function of package poly answers, said of natural numbers. -/
import Derived.Test.YthddomhlkljlkabBits
namespace Go.Proofs.Ythddomhlkljlkab
open Go.RowKit


end Go.Proofs.Ythddomhlkljlkab
