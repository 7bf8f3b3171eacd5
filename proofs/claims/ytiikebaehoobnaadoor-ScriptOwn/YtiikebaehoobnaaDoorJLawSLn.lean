/- ScriptLines (P20.1): a set's words and a move's line are the document's. (gensln.py) -/
import Derived.Test.YtiikebaehoobnaaDoorJSrd
namespace Go.Proofs.YtiikebaehoobnaaDoor
set_option maxRecDepth 100000
open Go.RowKit Go.Maps
set_option maxRecDepth 100000
end Go.Proofs.YtiikebaehoobnaaDoor
