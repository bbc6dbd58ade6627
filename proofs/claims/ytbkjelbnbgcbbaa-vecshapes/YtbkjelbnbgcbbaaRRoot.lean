/- theodoliteref03.Root. -/
import Derived.Test.YtbkjelbnbgcbbaaRLess
import Derived.Test.YtbkjelbnbgcbbaaBallB
namespace Go.Proofs.Ytbkjelbnbgcbbaa
open Go.RowKit

theorem rless_v (a b : Nat) (ha : a < 340282366920938463463374607431768211456) (hb : b < 340282366920938463463374607431768211456) (r : Bool) (h : decide (a < b) = r) (w : World) :
    Calls Try.prog 25 #[Wd a, Wd b] w fun e w' => e = .returned (.bool r) ∧ Gr w w' := by
  subst h; exact less_any a b ha hb w
end Go.Proofs.Ytbkjelbnbgcbbaa
