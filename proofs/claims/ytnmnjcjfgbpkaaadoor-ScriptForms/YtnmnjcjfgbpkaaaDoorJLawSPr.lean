/- ScriptPrints (P20.2): Print is the document's. -/
import Derived.Test.YtnmnjcjfgbpkaaaDoorJSp5
import Derived.Test.YtnmnjcjfgbpkaaaDoorJNcs
import Derived.Test.YtnmnjcjfgbpkaaaDoorJSrd
namespace Go.Proofs.YtnmnjcjfgbpkaaaDoor
set_option maxRecDepth 100000
open Go.RowKit Go.Maps
set_option maxRecDepth 100000
end Go.Proofs.YtnmnjcjfgbpkaaaDoor
