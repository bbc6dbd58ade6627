/- theodoliteref03: Check, Square, Sum, Far, Dist, as contracts. -/
import Derived.Test.YtepjbdklljlecaaGreatVa2
import Derived.Deep.RegionHeld3
namespace Go.Proofs.YtepjbdklljlecaaGreat
open Go.RowKit

end Go.Proofs.YtepjbdklljlecaaGreat
