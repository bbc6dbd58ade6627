/- A list of lists of bytes that came in. -/
import Derived.Test.YtpjoaefmpdjjnaaSxDkLo
namespace Go.Proofs.Ytpjoaefmpdjjnaa
open Go.ChangeShapes Go.WideShapes Go.ChangeAt Go.RowKit Go.Joins Go.Deep

def RdBs (w : World) (v : Value) (ls : List By) : Prop := ∃ a cap, v = .slice a ls.length cap ∧ ∀ i, i < ls.length → ∃ g o vb, a = some ⟨g, o, none⟩ ∧ w.cell? ⟨g, o + i, none⟩ = some vb ∧ RdY w vb ls[i]!
theorem RdBs.gb {w w' : World} {v : Value} {ls : List By} (h : RdBs w v ls) (g : Gb w w') : RdBs w' v ls := by
  obtain ⟨a, cap, e, h⟩ := h
  refine ⟨a, cap, e, fun i hi => ?_⟩
  obtain ⟨b, o, vb, e, c0, h1⟩ := h i hi
  exact ⟨b, o, vb, e, gb_keeps g c0, h1.gb g⟩
set_option maxRecDepth 100000 in
theorem open_lists {H : Type} {enc : TypeId × Value → H} {W : World} {b0 : Nat} {r : Reach} {v : Value} {d : DataW H} {p : List MemPlace}
    (hv' : Value.okWide Try.prog W r b0 41 v) (h : DataW.Trod enc Try.prog W 0 (fun _ => true) true 41 v d p) : ∃ ls : List By, RdBs W v ls := by
  obtain ⟨a0, len, cap, rfl⟩ := okWide_slice Try.underlying41 hv'
  obtain ⟨fuel, hf⟩ := h
  rcases open_slice Try.underlying41 (by simpa [Value.cells] using hf) with ⟨e, _⟩ | ⟨a, len, cap, m, n, D, Pl, e, _, hlc, hcm, hm, _, hx⟩
  · cases e
    exact ⟨[], ⟨none, 0, rfl, fun i hi => absurd hi (Nat.not_lt_zero _)⟩⟩
  · cases e
    rw [if_pos rfl] at hm
    subst hm
    have hy : ∀ i, i < len → ∃ y : By, ∃ vb, W.cell? (a.add i) = some vb ∧ RdY W vb y := by
      intro i hi
      obtain ⟨cs, hc, ht⟩ := hx i (by omega)
      obtain ⟨vb, bl, e3, hb⟩ := trodB ht
      subst e3
      rw [Try.cellsBs] at hc
      obtain ⟨_, _, hcc⟩ := World.cells?_some hc
      have q0 := hcc 0 (by omega)
      exact ⟨bl, vb, by simpa [Addr.add, Try.cellsBs] using q0, hb⟩
    obtain ⟨Y, hY⟩ := choose_lt (α := By) (p := fun i y => ∃ vb, W.cell? (a.add i) = some vb ∧ RdY W vb y) hy
    have hg : ∀ i, i < len → ((List.range len).map Y)[i]! = Y i := by
      intro i hi
      rw [getElem!_pos _ i (by simpa using hi)]; simp
    refine ⟨(List.range len).map Y, ⟨some a, m, by simp, fun i hi => ?_⟩⟩
    have hi' : i < len := by simpa using hi
    obtain ⟨_, q0, _⟩ := hY 0 (by omega)
    have ha : a = ⟨a.block, a.off, none⟩ := spot_none (by simpa [Addr.add] using q0)
    obtain ⟨vb, c0, h1⟩ := hY i hi'
    rw [hg i hi']
    rw [ha, Addr.add_lit] at c0
    exact ⟨a.block, a.off, vb, by rw [← ha], c0, h1⟩
end Go.Proofs.Ytpjoaefmpdjjnaa
