import Derived.Test.YtgbgejflmbhigaaGreatKwBoxY
import Derived.Test.YtgbgejflmbhigaaGreatKw16
namespace Go.Proofs.YtgbgejflmbhigaaGreat
open Go.RowKit Go.Sort Go.Maps
end Go.Proofs.YtgbgejflmbhigaaGreat
