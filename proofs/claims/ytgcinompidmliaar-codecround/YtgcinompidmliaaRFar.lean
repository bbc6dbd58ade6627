/- theodoliteref03.Far. -/
import Derived.Test.YtgcinompidmliaaRRefV
import Derived.Test.YtgcinompidmliaaRDist
import Derived.Deep.RegionHeld3
namespace Go.Proofs.YtgcinompidmliaaR
open Go.RowKit

theorem set2_far' {W : World} {b : Nat} {p : Addr} {v : Value} (hb : b ≠ p.block) (h : W.cell? p = some v) (x y : Value) : ((W.setCell ⟨b, 0, none⟩ x).setCell ⟨b, 1, none⟩ y).cell? p = some v := by
  rw [World.cell?_setCell_far _ _ _ _ hb, World.cell?_setCell_far _ _ _ _ hb]; exact h
theorem two_set {W : World} {b b1 b2 o1 o2 : Nat} {v0 v1 : Value} (h1 : b ≠ b1) (h2 : b ≠ b2) (h : W.cell? ⟨b1, o1, none⟩ = some v0 ∧ W.cell? ⟨b2, o2, none⟩ = some v1) (x y : Value) :
    ((W.setCell ⟨b, 0, none⟩ x).setCell ⟨b, 1, none⟩ y).cell? ⟨b1, o1, none⟩ = some v0 ∧ ((W.setCell ⟨b, 0, none⟩ x).setCell ⟨b, 1, none⟩ y).cell? ⟨b2, o2, none⟩ = some v1 := ⟨set2_far' h1 h.1 x y, set2_far' h2 h.2 x y⟩
theorem gap_nat (x y : Int) : (x - y).natAbs = gap x x y := by unfold gap; split <;> (try split) <;> omega

end Go.Proofs.YtgcinompidmliaaR
