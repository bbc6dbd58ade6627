import Derived.Test.YtgcinompidmliaaRCxCoLi
import Derived.Test.YtgcinompidmliaaRCxCoV
import Derived.Test.YtgcinompidmliaaRCxRefV
import Derived.Test.YtgcinompidmliaaRCx3
import Derived.Deep.RegionHeld3
/- What came in, opened: a change; a byte. -/
namespace Go.Proofs.YtgcinompidmliaaR
open Go.ChangeShapes Go.WideShapes Go.ChangeAt Go.RowKit Go.Joins Go.Deep

theorem Try.cells37 : Try.prog.cellsOf 37 = 3 := by kernel_rfl
theorem Try.cells34 : Try.prog.cellsOf 34 = 1 := by kernel_rfl
theorem trod_struct3 {H : Type} {enc : TypeId × Value → H} {w : World} {base : Nat} {spare : Nat → Bool} {held : Bool} {t : TypeId} {f0 f1 f2 : Field} {fuel : Nat} {cs : List Value} {x : DataW H × List MemPlace} (ht : Try.prog.underlying t = some (.struct #[f0, f1, f2])) (h : DataW.trod enc Try.prog w base spare held fuel t cs = some x) :
    ∃ y0 y1 y2 n, cs.length = Try.prog.cellsOf t ∧ DataW.trod enc Try.prog w base spare held n f0.type ((cs.drop f0.offset).take (Try.prog.cellsOf f0.type)) = some y0 ∧
      DataW.trod enc Try.prog w base spare held n f1.type ((cs.drop f1.offset).take (Try.prog.cellsOf f1.type)) = some y1 ∧ DataW.trod enc Try.prog w base spare held n f2.type ((cs.drop f2.offset).take (Try.prog.cellsOf f2.type)) = some y2 := by
  obtain ⟨xs, n, _, rfl, hl, hlen, hf⟩ := DataW.trod_struct ht h
  match xs, hlen with
  | [y0, y1, y2], _ => exact ⟨y0, y1, y2, n, hl, by simpa using hf 0 f0 rfl, by simpa using hf 1 f1 rfl, by simpa using hf 2 f2 rfl⟩
set_option maxRecDepth 100000 in
theorem open_change {H : Type} {enc : TypeId × Value → H} {W : World} {b0 : Nat} {r : Reach} {v : Value} {d : DataW H} {p : List MemPlace}
    (hv' : Value.okWide Try.prog W r b0 37 v) (h : DataW.Trod enc Try.prog W 0 (fun _ => true) true 37 v d p) : ∃ k i u l, v = Ch k i u ∧ RdI W u l := by
  obtain ⟨cs, rfl, hsz⟩ := okWide_struct Try.underlying37 hv'
  obtain ⟨fuel, hf⟩ := h
  obtain ⟨l⟩ := cs
  simp only [Value.cells] at hf
  obtain ⟨y0, y1, y2, n, hl, k0, k1, k2⟩ := trod_struct3 Try.underlying37 hf
  rw [Try.cells37] at hl
  match l, hl with
  | [c0, c1, c2], _ =>
    obtain ⟨k, e0, _⟩ := DataW.trod_int Try.underlying34 k0
    obtain ⟨i, e1, _⟩ := DataW.trod_int Try.underlying3 k1
    obtain ⟨u, L, e2, rl, _⟩ := trod22 k2
    simp [Try.cells34, Try.cells3, Try.cells35] at e0 e1 e2
    subst e0 e1 e2
    exact ⟨k, i, _, L, rfl, rl⟩
theorem byte_num {x : Int} (h : 0 ≤ x ∧ x < 256) : ∃ m : UInt8, (m.toNat : Int) = x := ⟨UInt8.ofNat x.toNat, by simp; omega⟩
end Go.Proofs.YtgcinompidmliaaR

/- theodoliteref03.Far. -/
namespace Go.Proofs.YtgcinompidmliaaR
open Go.RowKit

theorem set2_far' {W : World} {b : Nat} {p : Addr} {v : Value} (hb : b ≠ p.block) (h : W.cell? p = some v) (x y : Value) : ((W.setCell ⟨b, 0, none⟩ x).setCell ⟨b, 1, none⟩ y).cell? p = some v := by
  rw [World.cell?_setCell_far _ _ _ _ hb, World.cell?_setCell_far _ _ _ _ hb]; exact h
theorem two_set {W : World} {b b1 b2 o1 o2 : Nat} {v0 v1 : Value} (h1 : b ≠ b1) (h2 : b ≠ b2) (h : W.cell? ⟨b1, o1, none⟩ = some v0 ∧ W.cell? ⟨b2, o2, none⟩ = some v1) (x y : Value) :
    ((W.setCell ⟨b, 0, none⟩ x).setCell ⟨b, 1, none⟩ y).cell? ⟨b1, o1, none⟩ = some v0 ∧ ((W.setCell ⟨b, 0, none⟩ x).setCell ⟨b, 1, none⟩ y).cell? ⟨b2, o2, none⟩ = some v1 := ⟨set2_far' h1 h.1 x y, set2_far' h2 h.2 x y⟩
theorem gap_nat (x y : Int) : (x - y).natAbs = gap x x y := by unfold gap; split <;> (try split) <;> omega

end Go.Proofs.YtgcinompidmliaaR
