/- What each function of package poly answers, said of natural numbers. -/
import Derived.Test.YtikdkbcekibakaaBits
namespace Go.Proofs.Ytikdkbcekibakaa
open Go.RowKit


end Go.Proofs.Ytikdkbcekibakaa
