/- vec.CheckRegion and vec.checkBoth. -/
import Derived.Test.YtgcinompidmliaaRReg
namespace Go.Proofs.YtgcinompidmliaaR
open Go.RowKit

/-- What CheckRegion answers. -/
def ckR (r : Reg) (d : Int) : Int :=
  if 1 ≤ d ∧ d ≤ 64 then (if uses r = true ∧ rise r.I = true then (if r.S = 2 then cornE r.L r.H d else if r.S = 3 then chk r.L d else 0) else 32) else 30

/-- What checkBoth answers. -/
def ckB (r : Reg) (a : List Int) : Int := if ckR r a.length = 0 then chk a a.length else ckR r a.length

end Go.Proofs.YtgcinompidmliaaR
