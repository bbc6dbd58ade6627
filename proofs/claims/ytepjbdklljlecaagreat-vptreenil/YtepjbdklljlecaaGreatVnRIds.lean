/- The reference's ids. -/
import Derived.Test.YtepjbdklljlecaaGreatVnRReg
import Derived.Test.YtepjbdklljlecaaGreatVa8
namespace Go.Proofs.YtepjbdklljlecaaGreat
open Go.RowKit

end Go.Proofs.YtepjbdklljlecaaGreat
