/- The reference's region: one whose rows lie in it. -/
import Derived.Test.YtepjbdklljlecaaGreatVnFFind
import Derived.Test.YtepjbdklljlecaaGreatVnRIn
namespace Go.Proofs.YtepjbdklljlecaaGreat
open Go.RowKit Go.Sort

end Go.Proofs.YtepjbdklljlecaaGreat
