/- The law's big; vectors that came in. -/
import Derived.Test.YtblfmhdcgmkpgaaKRd
import Derived.Test.YtblfmhdcgmkpgaaLift
namespace Go.Proofs.Ytblfmhdcgmkpgaa
open Go.ChangeShapes Go.WideShapes Go.ChangeAt Go.RowKit Go.Joins Go.Deep

/-- What big tells. -/
def BigR (n : Nat) (w : World) (e : Ending) (w' : World) : Prop := (∃ b, e = .returned (.bool b) ∧ (b = false → n ≤ 65536)) ∧ w = w'
theorem Try.cellsV : Try.prog.cellsOf 40 = 1 := by kernel_rfl
set_option maxRecDepth 100000 in
/-- Vectors that came in. -/
theorem open_vecs {H : Type} {enc : TypeId × Value → H} {W : World} {b0 : Nat} {r : Reach} {v : Value} {d : DataW H} {p : List MemPlace}
    (hv' : Value.okWide Try.prog W r b0 22 v) (h : DataW.Trod enc Try.prog W 0 (fun _ => true) true 22 v d p) : ∃ vs : Vs, RdV W v vs ∧ vs.length ≤ maxLen ∧ ∀ i, i < vs.length → vs[i]!.length ≤ maxLen := by
  obtain ⟨a0, len, cap, rfl⟩ := okWide_slice Try.underlying22 hv'
  obtain ⟨fuel, hf⟩ := h
  rcases open_slice1 Try.underlying22 Try.cellsV (by simpa [Value.cells] using hf) with ⟨e, _⟩ | ⟨a, len, cap, m, n, V, D, Pl, e, _, hlc, hcm, hm, _, hx⟩
  · cases e
    exact ⟨[], rdv_nil _, Nat.zero_le _, fun i hi => absurd hi (Nat.not_lt_zero _)⟩
  · cases e
    rw [if_pos rfl] at hm
    subst hm
    have hy : ∀ i, i < len → ∃ y : List Int, (∃ u, W.cell? (a.add i) = some u ∧ RdI W u y) ∧ y.length ≤ maxLen := by
      intro i hi
      obtain ⟨hc, ht⟩ := hx i (by omega)
      obtain ⟨u, l, e6, rl, ll⟩ := trod22 ht
      simp at e6
      exact ⟨l, ⟨u, by rw [hc, e6], rl⟩, ll⟩
    obtain ⟨Y, hY⟩ := choose_lt (α := List Int) (p := fun i y => (∃ u, W.cell? (a.add i) = some u ∧ RdI W u y) ∧ y.length ≤ maxLen) hy
    have hg : ∀ i, i < len → ((List.range len).map Y)[i]! = Y i := by
      intro i hi
      rw [getElem!_pos _ i (by simpa using hi)]; simp
    refine ⟨(List.range len).map Y, ⟨some a, m, by simp, fun i hi => ?_⟩, by simp; omega, fun i hi => ?_⟩
    · have hi' : i < len := by simpa using hi
      obtain ⟨⟨u0, q0, _⟩, _⟩ := hY 0 (by omega)
      have ha : a = ⟨a.block, a.off, none⟩ := spot_none (by simpa [Addr.add] using q0)
      obtain ⟨⟨u, q1, q3⟩, _⟩ := hY i hi'
      rw [hg i hi']
      rw [ha, Addr.add_lit] at q1
      exact ⟨a.block, a.off, u, by rw [← ha], q1, q3⟩
    · have hi' : i < len := by simpa using hi
      rw [hg i hi']; exact (hY i hi').2
end Go.Proofs.Ytblfmhdcgmkpgaa
