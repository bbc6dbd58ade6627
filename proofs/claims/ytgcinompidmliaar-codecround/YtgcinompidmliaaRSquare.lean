/- vec.side, its closure, vec.withSquare. -/
import Derived.Test.YtgcinompidmliaaRInts
namespace Go.Proofs.YtgcinompidmliaaR
open Go.RowKit

/-- How much x lies below low, or above high. -/
def gap (l h x : Int) : Nat := if x < l then (l - x).toNat else if h < x then (x - h).toNat else 0

end Go.Proofs.YtgcinompidmliaaR
