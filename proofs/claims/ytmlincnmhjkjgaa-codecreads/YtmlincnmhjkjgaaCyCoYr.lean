/- The reference's GetRows. -/
import Derived.Test.YtmlincnmhjkjgaaCyCoYc
import Derived.Test.YtmlincnmhjkjgaaCyCoZr
import Derived.Test.YtmlincnmhjkjgaaCyCoQr
import Derived.Test.YtmlincnmhjkjgaaCyCoMm
namespace Go.Proofs.Ytmlincnmhjkjgaa
open Go.RowKit Go.Lib

/-- Rows of the call's own: q of them, each list in a block of its own. -/
def OwR (W : World) (B : Nat) (R : Nat → Rw) (q : Nat) (v : Value) : Prop :=
  ∃ xs : List Value, W.ownsRow B 50 2 v q xs ∧ ∀ i, i < q → ∃ u, xs[i * 2]? = some (.int .i64 (R i).1) ∧ xs[i * 2 + 1]? = some u ∧ Own W B u (R i).2
theorem OwR.gb {W W' : World} {B q : Nat} {R : Nat → Rw} {v : Value} (h : OwR W B R q v) (g : Gb W W') : OwR W' B R q v := by
  obtain ⟨xs, h1, h2⟩ := h
  refine ⟨xs, World.ownsRow.kept (row := none) h1 ⟨g.os, g.tape, g.output, g.size, fun k hk _ => g.block k hk⟩ (by cases hv : v.ownBlock <;> simp), fun i hi => ?_⟩
  obtain ⟨u, a, b, c⟩ := h2 i hi
  exact ⟨u, a, b, c.gb g⟩
theorem own_apart {W : World} {B q : Nat} {v u : Value} {xs : List Value} {l : List Int} (h : W.ownsRow B 50 2 v q xs) (k : Own W B u l) : u.ownBlock = none ∨ u.ownBlock ≠ v.ownBlock := by
  rcases k.2 with ⟨rfl, _⟩ | ⟨g, cap, cur, rfl, _, hg, _⟩
  · exact .inl rfl
  · refine .inr fun e => ?_
    rcases h.2 with ⟨rfl, _⟩ | ⟨g', cap', cur', rfl, _, hg', _⟩
    · cases e
    · have e : g = g' := by simpa [Value.ownBlock] using e
      subst e
      rw [hg] at hg'
      cases hg'
theorem OwR.next {W W' : World} {B q : Nat} {R : Nat → Rw} {v v' : Value} {xs : List Value} {u : Value} (h1 : W.ownsRow B 50 2 v q xs) (h2 : ∀ i, i < q → ∃ u, xs[i * 2]? = some (.int .i64 (R i).1) ∧ xs[i * 2 + 1]? = some u ∧ Own W B u (R i).2)
    (hu : Own W B u (R q).2) (h3 : W'.ownsRow B 50 2 v' (q + 1) (xs ++ [.int .i64 (R q).1, u])) (g : W.grownBy W' v.ownBlock) : OwR W' B R (q + 1) v' := by
  have hl : xs.length = q * 2 := h1.1
  refine ⟨_, h3, fun i hi => ?_⟩
  by_cases e : i = q
  · subst e
    refine ⟨u, ?_, ?_, hu.kept g (own_apart h1 hu)⟩
    · rw [List.getElem?_append_right (by omega), hl, Nat.sub_self]; rfl
    · rw [List.getElem?_append_right (by omega), hl, show i * 2 + 1 - i * 2 = 1 by omega]; rfl
  · obtain ⟨u', a, b, c⟩ := h2 i (by omega)
    refine ⟨u', ?_, ?_, c.kept g (own_apart h1 c)⟩
    · rw [List.getElem?_append_left (by omega)]; exact a
    · rw [List.getElem?_append_left (by omega)]; exact b
theorem OwR.rd {W : World} {B c d : Nat} {l : List UInt8} {v : Value} (h : OwR W B (rwI d l) c v) : RdW W v (rsO d c l) ∧ Rm v := by
  obtain ⟨xs, h1, h2⟩ := h
  have hl : xs.length = c * 2 := h1.1
  rcases h1.2 with ⟨rfl, h0⟩ | ⟨g, cap, cur, rfl, _, hg, hc, hm, hs, ht⟩
  · subst h0
    exact ⟨⟨none, 0, rfl, fun i hi => by rw [rsO_length] at hi; omega⟩, fun a n c e => by cases e; exact Nat.le_refl _⟩
  · refine ⟨⟨_, cap, by rw [rsO_length], fun i hi => ?_⟩, fun a n c e => by cases e; exact hc⟩
    rw [rsO_length] at hi
    obtain ⟨u, a, b, o⟩ := h2 i hi
    rw [rsO_get hi]
    refine ⟨g, 0, u, rfl, ?_, ?_, o.rd⟩
    · simp only [World.cell?, hg, Nat.zero_add]
      rw [← ht, List.getElem?_take_of_lt (by omega)] at a
      simpa using a
    · simp only [World.cell?, hg, Nat.zero_add]
      rw [← ht, List.getElem?_take_of_lt (by omega)] at b
      simpa using b
end Go.Proofs.Ytmlincnmhjkjgaa
