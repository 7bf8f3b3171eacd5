/- What the statements on memory share: mark, Spare, Kept. -/
import Derived.Test.YtmleiemlfogffaaGreatStrs
namespace Go.Proofs.YtmleiemlfogffaaGreat
set_option maxRecDepth 100000
open Go.RowKit

/-- The byte that a list has in a place. -/
def mrk (i k : Nat) : Nat := (17 * i + 5 * k + 3) % 256
theorem mrk_lt (i k : Nat) : mrk i k < 256 := Nat.mod_lt _ (by omega)

end Go.Proofs.YtmleiemlfogffaaGreat
