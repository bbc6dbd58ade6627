/- The reference's Mul, as a contract. -/
import Derived.Test.YtepjbdklljlecaaGreatVnTimes
namespace Go.Proofs.YtepjbdklljlecaaGreat
open Go.RowKit

end Go.Proofs.YtepjbdklljlecaaGreat
