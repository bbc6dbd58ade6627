/- The reference's Wide and Add, as contracts. -/
import Derived.Test.YtepjbdklljlecaaGreatVnRLess
namespace Go.Proofs.YtepjbdklljlecaaGreat
open Go.RowKit

end Go.Proofs.YtepjbdklljlecaaGreat
