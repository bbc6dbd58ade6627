/- The reference's Id, ids and form. -/
import Derived.Test.YtepjbdklljlecaaGreatVa7
import Derived.Test.YtepjbdklljlecaaGreatVnRefV
namespace Go.Proofs.YtepjbdklljlecaaGreat
open Go.RowKit

end Go.Proofs.YtepjbdklljlecaaGreat
