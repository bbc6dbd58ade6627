/- What the walks over Times lean on. -/
import Derived.Test.YtepjbdklljlecaaGreatVnRWide
import Derived.Deep.RegionWith
namespace Go.Proofs.YtepjbdklljlecaaGreat
open Go.RowKit

theorem NumAt.zero (w : World) (t : TypeId) : NumAt (w.alloc (.cells #[.int .i64 0, .int .i64 0, .int .i64 0, .int .i64 0, .int .i64 0, .int .i64 0, .int .i64 0, .int .i64 0, .bool false] t)) w.heap.size 0 false := NumAt.new w 0 false t
theorem NumAt.drew {w : World} {B n : Nat} {o : Bool} (h : NumAt w B n o) : NumAt w.drew B n o := h.call (Gr.refl _).drew

end Go.Proofs.YtepjbdklljlecaaGreat
