/- What each function of package poly answers, said of natural numbers. -/
import Derived.Test.YthddomhlkljlkaaBits
namespace Go.Proofs.Ythddomhlkljlkaa
open Go.RowKit


end Go.Proofs.Ythddomhlkljlkaa
