/- Part 27 of the texts on which the proofs of layer 13 rest: contracts of Go functions. -/
import Derived.Test.YtpgdghjlfdehjaaGreatPkH25
namespace Go.Proofs.YtpgdghjlfdehjaaGreat
set_option maxRecDepth 100000
open Go.RowKit
end Go.Proofs.YtpgdghjlfdehjaaGreat
