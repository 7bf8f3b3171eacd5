/- The reference's Sum, Word and Seal; the statements' Awake. -/
import Derived.Test.YthddomhlkljlkabCrc2
import Derived.Lib.SlBytesConst
namespace Go.Proofs.Ythddomhlkljlkab
open Go.RowKit


end Go.Proofs.Ythddomhlkljlkab
