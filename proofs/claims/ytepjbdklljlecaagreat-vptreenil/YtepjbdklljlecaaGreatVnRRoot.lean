/- theodoliteref03.Root. -/
import Derived.Test.YtepjbdklljlecaaGreatVnRMul
import Derived.Test.YtepjbdklljlecaaGreatVnRLess
import Derived.Test.YtepjbdklljlecaaGreatVa7
namespace Go.Proofs.YtepjbdklljlecaaGreat
open Go.RowKit

end Go.Proofs.YtepjbdklljlecaaGreat
