/- The law's big, and Before; the laws' statements in plain words. -/
import Derived.Test.YtepjbdklljlecaaGreatVnFSearch
import Derived.Test.YtepjbdklljlecaaGreatVa10
import Derived.Test.YtepjbdklljlecaaGreatVnRLess
import Derived.Test.YtepjbdklljlecaaGreatVa17
namespace Go.Proofs.YtepjbdklljlecaaGreat
open Go.RowKit Go.Sort

end Go.Proofs.YtepjbdklljlecaaGreat
