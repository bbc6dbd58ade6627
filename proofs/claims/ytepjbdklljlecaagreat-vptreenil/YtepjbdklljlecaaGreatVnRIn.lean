/- The reference's In and Inside. -/
import Derived.Test.YtepjbdklljlecaaGreatVnRCkR
import Derived.Test.YtepjbdklljlecaaGreatVa7
import Derived.Test.YtepjbdklljlecaaGreatVnFar
import Derived.Test.YtepjbdklljlecaaGreatVnRRoot
namespace Go.Proofs.YtepjbdklljlecaaGreat
open Go.RowKit

end Go.Proofs.YtepjbdklljlecaaGreat
