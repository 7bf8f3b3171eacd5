/- Part 28 of the texts on which the proof rests: contracts of Go functions. -/
import Derived.Deep.RegionHeld3
import Derived.Sort.WalkA
import Derived.Test.YtpbcgpdfjplidaaGreatPkN00
import Derived.Test.YtpbcgpdfjplidaaGreatPkN07
import Derived.Test.YtpbcgpdfjplidaaGreatPkN21
namespace Go.Proofs.YtpbcgpdfjplidaaGreat
set_option maxRecDepth 100000
open Go.RowKit
end Go.Proofs.YtpbcgpdfjplidaaGreat
namespace Go.Proofs.YtpbcgpdfjplidaaGreat
set_option maxRecDepth 100000
open Go.RowKit Go.Maps
end Go.Proofs.YtpbcgpdfjplidaaGreat
namespace Go.Proofs.YtpbcgpdfjplidaaGreat
set_option maxRecDepth 100000
open Go.RowKit Go.Maps
end Go.Proofs.YtpbcgpdfjplidaaGreat
