/- The reference's find. -/
import Derived.Test.YtepjbdklljlecaaGreatVa3
namespace Go.Proofs.YtepjbdklljlecaaGreat
open Go.RowKit Go.Sort

end Go.Proofs.YtepjbdklljlecaaGreat
