/- The reference's Ints and Same. -/
import Derived.Test.YtgcinompidmliaaRKeep
namespace Go.Proofs.YtgcinompidmliaaR
open Go.RowKit Go.Sort Go.Maps

theorem wd_same (a b : Int) (W : World) : (binOp .eql 78 (.agg #[.int .u64 a, .int .u64 b]) (.agg #[.int .u64 a, .int .u64 b])).run Try.prog W = .ok (.bool true) W := by
  rw [wd_run]; simp
end Go.Proofs.YtgcinompidmliaaR
