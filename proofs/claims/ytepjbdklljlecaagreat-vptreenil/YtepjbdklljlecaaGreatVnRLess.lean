/- The reference's Cmp and Less, as contracts. -/
import Derived.Test.YtepjbdklljlecaaGreatVnNum
import Derived.Test.YtepjbdklljlecaaGreatVnPlus
import Derived.BigQuiet
namespace Go.Proofs.YtepjbdklljlecaaGreat
open Go.RowKit

end Go.Proofs.YtepjbdklljlecaaGreat
