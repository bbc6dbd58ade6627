/- flat.order, slices.SortFunc by it, Range. -/
import Derived.Test.YtepjbdklljlecaaGreatVa12
import Derived.Maps.OwnIn
namespace Go.Proofs.YtepjbdklljlecaaGreat
open Go.RowKit Go.Shelf Go.Sort Go.Lib
attribute [local go_sem] Oper.semAt_some

end Go.Proofs.YtepjbdklljlecaaGreat
