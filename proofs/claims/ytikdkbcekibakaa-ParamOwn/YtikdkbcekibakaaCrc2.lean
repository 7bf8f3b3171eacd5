/- More of package crc without tables, and the reference's answers: sealed lists, joined checks. -/
import Derived.Test.YtikdkbcekibakaaCrc
namespace Go.Proofs.Ytikdkbcekibakaa
open Go.RowKit


end Go.Proofs.Ytikdkbcekibakaa
