/- Part 13: contracts that the proof rests on. -/
import Derived.Test.YtenilkloffnjlaaGreatProg
import Derived.WalkKit
import Derived.ProofKit
import Derived.Lib.SmallJoins
import Derived.Test.YtenilkloffnjlaaGreatPkH00
set_option maxHeartbeats 64000000
set_option maxRecDepth 100000
namespace Go.Proofs.YtenilkloffnjlaaGreat
open Go.ChangeShapes Go.WideShapes Go.ChangeAt Go.RowKit Go.Joins Go.Deep
end Go.Proofs.YtenilkloffnjlaaGreat
