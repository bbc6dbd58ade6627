/- The reference's Near: a ball, and neither. -/
import Derived.Test.YtepjbdklljlecaaGreatVb23
import Derived.Test.YtepjbdklljlecaaGreatVb22
namespace Go.Proofs.YtepjbdklljlecaaGreat
open Go.RowKit

end Go.Proofs.YtepjbdklljlecaaGreat
