import Derived.Test.YtmlincnmhjkjgaaCyReg
/- vec.CheckRegion and vec.checkBoth. -/
namespace Go.Proofs.Ytmlincnmhjkjgaa
open Go.RowKit

/-- What CheckRegion answers. -/
def ckR (r : Reg) (d : Int) : Int :=
  if 1 ≤ d ∧ d ≤ 64 then (if uses r = true ∧ rise r.I = true then (if r.S = 2 then cornE r.L r.H d else if r.S = 3 then chk r.L d else 0) else 32) else 30

/-- What checkBoth answers. -/
def ckB (r : Reg) (a : List Int) : Int := if ckR r a.length = 0 then chk a a.length else ckR r a.length

end Go.Proofs.Ytmlincnmhjkjgaa

/- vec.boxBound. -/
namespace Go.Proofs.Ytmlincnmhjkjgaa
open Go.RowKit

/-- The bound of a box. -/
def bxN (l h q : List Int) (n : Nat) : Nat := sumN (fun i => gap l[i]! h[i]! q[i]! * gap l[i]! h[i]! q[i]!) n
def bx (l h q : List Int) : Nat := bxN l h q q.length
theorem bxN_le {l h q : List Int} (hl : allR l = true) (hh : allR h = true) (hq : allR q = true) (h1 : l.length = q.length) (h2 : h.length = q.length) (n : Nat) (hn : n ≤ q.length) : bxN l h q n ≤ n * 18446744056529682436 :=
  sumN_le _ _ _ (fun i hi => sq_small _ (gap_le _ _ _ (allR_get hl (by omega)) (allR_get hh (by omega)) (allR_get hq (by omega))))
theorem bx_lt {l h q : List Int} (hl : allR l = true) (hh : allR h = true) (hq : allR q = true) (h1 : l.length = q.length) (h2 : h.length = q.length) (hn : q.length ≤ 64) : bx l h q < 340282366920938463463374607431768211456 := by
  have := bxN_le hl hh hq h1 h2 q.length (Nat.le_refl _)
  unfold bx; omega

theorem four_call {W w' : World} {p0 p1 p2 p3 : Addr} {v0 v1 v2 v3 : Value} (g : Gr W w') (h : W.cell? p0 = some v0 ∧ W.cell? p1 = some v1 ∧ W.cell? p2 = some v2 ∧ W.cell? p3 = some v3) :
    w'.cell? p0 = some v0 ∧ w'.cell? p1 = some v1 ∧ w'.cell? p2 = some v2 ∧ w'.cell? p3 = some v3 := ⟨g.keeps h.1, g.keeps h.2.1, g.keeps h.2.2.1, g.keeps h.2.2.2⟩
theorem set2_far {W : World} {b : Nat} {p : Addr} {v : Value} (hb : b ≠ p.block) (h : W.cell? p = some v) (x y : Value) : ((W.setCell ⟨b, 0, none⟩ x).setCell ⟨b, 1, none⟩ y).cell? p = some v := by
  rw [World.cell?_setCell_far _ _ _ _ hb, World.cell?_setCell_far _ _ _ _ hb]; exact h
theorem four_set {W : World} {b b1 b2 b0 o1 o2 o3 o4 : Nat} {v0 v1 v2 v3 : Value} (h1 : b ≠ b1) (h2 : b ≠ b2) (h0 : b ≠ b0) (h : W.cell? ⟨b1, o1, none⟩ = some v0 ∧ W.cell? ⟨b2, o2, none⟩ = some v1 ∧ W.cell? ⟨b0, o3, none⟩ = some v2 ∧ W.cell? ⟨b0, o4, none⟩ = some v3) (x y : Value) :
    ((W.setCell ⟨b, 0, none⟩ x).setCell ⟨b, 1, none⟩ y).cell? ⟨b1, o1, none⟩ = some v0 ∧ ((W.setCell ⟨b, 0, none⟩ x).setCell ⟨b, 1, none⟩ y).cell? ⟨b2, o2, none⟩ = some v1 ∧ ((W.setCell ⟨b, 0, none⟩ x).setCell ⟨b, 1, none⟩ y).cell? ⟨b0, o3, none⟩ = some v2 ∧ ((W.setCell ⟨b, 0, none⟩ x).setCell ⟨b, 1, none⟩ y).cell? ⟨b0, o4, none⟩ = some v3 :=
  ⟨set2_far h1 h.1 x y, set2_far h2 h.2.1 x y, set2_far h0 h.2.2.1 x y, set2_far h0 h.2.2.2 x y⟩

end Go.Proofs.Ytmlincnmhjkjgaa
