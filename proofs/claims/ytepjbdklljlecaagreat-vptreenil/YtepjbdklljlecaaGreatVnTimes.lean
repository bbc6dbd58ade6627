/- The reference's Times, as a contract. -/
import Derived.Test.YtepjbdklljlecaaGreatVnTBase
import Derived.BigQuiet
namespace Go.Proofs.YtepjbdklljlecaaGreat
open Go.RowKit

end Go.Proofs.YtepjbdklljlecaaGreat
