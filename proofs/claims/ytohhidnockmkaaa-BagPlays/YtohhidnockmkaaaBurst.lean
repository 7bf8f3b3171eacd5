/- What package burst's functions that read a pattern answer. -/
import Derived.Test.YtohhidnockmkaaaRowo
import Derived.Test.YtohhidnockmkaaaBits8
import Derived.Deep.QuietTactic
import Derived.BigQuiet
namespace Go.Proofs.Ytohhidnockmkaaa
open Go.RowKit

end Go.Proofs.Ytohhidnockmkaaa
