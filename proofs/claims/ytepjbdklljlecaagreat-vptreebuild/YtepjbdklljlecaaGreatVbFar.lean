/- theodoliteref03.Far. -/
import Derived.Test.YtepjbdklljlecaaGreatVb10
import Derived.Test.YtepjbdklljlecaaGreatVbDist
import Derived.Deep.RegionHeld3
namespace Go.Proofs.YtepjbdklljlecaaGreat
open Go.RowKit

end Go.Proofs.YtepjbdklljlecaaGreat
