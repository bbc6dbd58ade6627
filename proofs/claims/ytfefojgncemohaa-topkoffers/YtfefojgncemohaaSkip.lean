/- An operation of a quiet region that its guard passes over. -/
import Derived.Test.YtfefojgncemohaaBase
import Derived.BigQuiet
namespace Go.Proofs.Ytfefojgncemohaa
open Go.RowKit

theorem quiet_skip {P : Program} {ops : Array Oper} {C : World → Prop} {Q : Act → Prop} {a : Act} {o : Oper} {rest : List Oper} {j : Nat} {b c : Bool} (hg : o.guard = some (j, b)) (hy : yielded ops a.tmps j = some c) (hc : c = !b)
    (h : wpQuiet P ops C Q rest (a.put o.dst undef)) : wpQuiet P ops C Q (o :: rest) a := by
  have hw : Region.wanted o (yielded ops a.tmps) = false := by
    subst hc
    cases b <;> simp [Region.wanted, hg, hy]
  exact wpQuiet_step (fun K hK => by rw [hw]; exact hK _ h)
theorem quiet_skipw {P : Program} {ops : Array Oper} {C : World → Prop} {Q : Act → Prop} {a : Act} {o : Oper} {rest : List Oper} (hw : Region.wanted o (yielded ops a.tmps) = false) (h : wpQuiet P ops C Q rest (a.put o.dst undef)) : wpQuiet P ops C Q (o :: rest) a :=
  wpQuiet_step (fun K hK => by rw [hw]; exact hK _ h)
end Go.Proofs.Ytfefojgncemohaa
