/- The reference's Sum, Word and Seal; the statements' Awake. -/
import Derived.Test.YtboeefphjjgbpaaCrc2
import Derived.Lib.SlBytesConst
namespace Go.Proofs.Ytboeefphjjgbpaa
open Go.RowKit


end Go.Proofs.Ytboeefphjjgbpaa
