/- ScriptPrints (P20.2): Print is the document's. -/
import Derived.Test.YtiikebaehoobnaaDoorJSp5
import Derived.Test.YtiikebaehoobnaaDoorJNcs
import Derived.Test.YtiikebaehoobnaaDoorJSrd
namespace Go.Proofs.YtiikebaehoobnaaDoor
set_option maxRecDepth 100000
open Go.RowKit Go.Maps
set_option maxRecDepth 100000
end Go.Proofs.YtiikebaehoobnaaDoor
