/- The reference's Sum, Word and Seal; the statements' Awake. -/
import Derived.Test.YtohhidnockmkaaaCrc2
import Derived.Lib.SlBytesConst
namespace Go.Proofs.Ytohhidnockmkaaa
open Go.RowKit


end Go.Proofs.Ytohhidnockmkaaa
