/- What each function of package poly answers, said of natural numbers. -/
import Derived.Test.YtlnfkgnlagadaabBits
namespace Go.Proofs.Ytlnfkgnlagadaab
open Go.RowKit


end Go.Proofs.Ytlnfkgnlagadaab
