/- wide.Sqrt, as a contract. -/
import Derived.Test.YtgndendohmbhlaaMul
import Derived.Deep.RegionHeld3
import Derived.Handy
import Derived.WalkMore
namespace Go.Proofs.Ytgndendohmbhlaa
open Go.RowKit

/-- r is the root of a: the greatest number whose square is not above a. -/
def IsRoot (a r : Nat) : Prop := r * r ≤ a ∧ a < (r + 1) * (r + 1)

theorem sq_le {x y : Nat} (h : x ≤ y) : x * x ≤ y * y := Nat.mul_le_mul h h

end Go.Proofs.Ytgndendohmbhlaa
