/- theodoliteref03.Far. -/
import Derived.Test.YtepjbdklljlecaaGreatVnRefV
import Derived.Test.YtepjbdklljlecaaGreatVa2
import Derived.Deep.RegionHeld3
namespace Go.Proofs.YtepjbdklljlecaaGreat
open Go.RowKit

end Go.Proofs.YtepjbdklljlecaaGreat
