/- The reference's CheckRegion. -/
import Derived.Test.YtepjbdklljlecaaGreatVnRIds
namespace Go.Proofs.YtepjbdklljlecaaGreat
open Go.RowKit

end Go.Proofs.YtepjbdklljlecaaGreat
