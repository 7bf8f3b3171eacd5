/- More of package crc without tables, and the reference's answers: sealed lists, joined checks. -/
import Derived.Test.YtboeefphjjgbpaaCrc
namespace Go.Proofs.Ytboeefphjjgbpaa
open Go.RowKit


end Go.Proofs.Ytboeefphjjgbpaa
