/- ScriptLines (P20.1): a set's words and a move's line are the document's. (gensln.py) -/
import Derived.Test.YtnmnjcjfgbpkaaaDoorJSrd
namespace Go.Proofs.YtnmnjcjfgbpkaaaDoor
set_option maxRecDepth 100000
open Go.RowKit Go.Maps
set_option maxRecDepth 100000
end Go.Proofs.YtnmnjcjfgbpkaaaDoor
