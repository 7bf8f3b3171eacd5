/- ScriptPrints (P20.2): Print is the document's. -/
import Derived.Test.YtiikebaehoobnaaDoorSp5
import Derived.Test.YtiikebaehoobnaaDoorNcs
import Derived.Test.YtiikebaehoobnaaDoorSaw
namespace Go.Proofs.YtiikebaehoobnaaDoor
set_option maxRecDepth 100000
open Go.RowKit Go.Maps
set_option maxRecDepth 100000
end Go.Proofs.YtiikebaehoobnaaDoor
