/- wide.Add, wide.Sub, wide.Cmp and the law's own lo, as contracts. -/
import Derived.Test.YtgndendohmbhlaaBase
namespace Go.Proofs.Ytgndendohmbhlaa
open Go.RowKit

/-- -1, 0 or 1. -/
def cmp3 (a b : Nat) : Int := if a < b then -1 else if a = b then 0 else 1

end Go.Proofs.Ytgndendohmbhlaa
