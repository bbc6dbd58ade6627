/- flat.Range. -/
import Derived.Test.YtepjbdklljlecaaGreatVnFRange
namespace Go.Proofs.YtepjbdklljlecaaGreat
open Go.RowKit Go.Shelf Go.Sort Go.Lib
attribute [local go_sem] Oper.semAt_some

def RadBox (W : World) (p : Nat) (rh rl : Int) : Prop := W.heap[p]? = some (.cells #[.int .u64 rh, .int .u64 rl] 66 (0, 0))
theorem RadBox.cells {W : World} {p : Nat} {rh rl : Int} (h : RadBox W p rh rl) : W.cell? ⟨p, 0, none⟩ = some (.int .u64 rh) ∧ W.cell? ⟨p, 1, none⟩ = some (.int .u64 rl) := by
  have e : W.heap[p]? = _ := h
  refine ⟨?_, ?_⟩ <;> simp [World.cell?, e]
theorem RadBox.gb {W W' : World} {p : Nat} {rh rl : Int} (h : RadBox W p rh rl) (g : Gb W W') : RadBox W' p rh rl := gb_same g h
theorem Boxed.gb {W W' : World} {B : Nat} {t : TypeId} {v : Value} (h : Boxed W B t v) (g : Gb W W') : Boxed W' B t v := gb_same g h
end Go.Proofs.YtepjbdklljlecaaGreat
