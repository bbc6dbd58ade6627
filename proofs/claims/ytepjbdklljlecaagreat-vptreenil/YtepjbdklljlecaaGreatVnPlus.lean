/- The reference's plus, as a contract. -/
import Derived.Test.YtepjbdklljlecaaGreatVnNum
namespace Go.Proofs.YtepjbdklljlecaaGreat
open Go.RowKit

end Go.Proofs.YtepjbdklljlecaaGreat
