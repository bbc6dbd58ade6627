import Derived.Test.YtepjbdklljlecaaGreatVb19
import Derived.BigQuiet
import Derived.Test.YtepjbdklljlecaaGreatVb7
import Derived.Test.YtepjbdklljlecaaGreatVb11
/- The reference's Times, as a contract. -/
namespace Go.Proofs.YtepjbdklljlecaaGreat
open Go.RowKit

end Go.Proofs.YtepjbdklljlecaaGreat

/- The reference's Mul, as a contract. -/
namespace Go.Proofs.YtepjbdklljlecaaGreat
open Go.RowKit

end Go.Proofs.YtepjbdklljlecaaGreat

/- theodoliteref03.Root. -/
namespace Go.Proofs.YtepjbdklljlecaaGreat
open Go.RowKit

end Go.Proofs.YtepjbdklljlecaaGreat
