/- flat.Search. -/
import Derived.Test.YtepjbdklljlecaaGreatVnFIds
namespace Go.Proofs.YtepjbdklljlecaaGreat
open Go.RowKit Go.Sort

theorem grown_setCell (w : World) (p : Addr) (u : Value) : w.grownBy (w.setCell p u) (some p.block) :=
  ⟨rfl, rfl, rfl, by simp [World.setCell], fun k _ hn => Below.heap_setCell _ _ _ _ (by rintro rfl; exact hn rfl)⟩

/-- Rows that were not looked at, in memory from B on. -/
def RestAt (w : World) (B : Nat) (v : Value) (rs : List Rw) : Prop := (rs = [] ∧ v = .slice none 0 0) ∨ rs ≠ [] ∧ ∃ vi g, v = .slice (some ⟨g, 0, none⟩) 1 1 ∧ B ≤ g ∧
  w.heap[g]? = some (.cells #[.int .i64 1, .slice none 0 0, .slice none 0 0, .int .u64 0, .int .u64 0, vi] 102 (0, 0)) ∧ Own w B vi (srt (idsOf rs))
theorem RestAt.grown {w w' : World} {B : Nat} {v : Value} {rs : List Rw} {b : Nat} (h : RestAt w B v rs) (g : w.grownBy w' (some b)) (hb : b < B) : RestAt w' B v rs := by
  rcases h with h | ⟨h0, vi, x, h1, h2, h3, h4⟩
  · exact .inl h
  · refine .inr ⟨h0, vi, x, h1, h2, (g.block x (Array.getElem?_eq_some_iff.1 h3).1 (by simp; omega)).trans h3, h4.kept g (.inr fun e => ?_)⟩
    have := (World.ownsRow.lt h4 b e).1
    omega
/-- An answer: hits, ids that were seen, the rest; each in memory of its own. -/
def AnsB (w w' : World) (B1 B2 : Nat) (vh vs vr : Value) (rs : List Rw) (q : List Int) (k c : Nat) : Prop := w.heap.size ≤ B1 ∧ B1 ≤ B2 ∧ B2 ≤ w'.heap.size ∧ Gb w w' ∧ Tk.Own w' vh (Tk.firsts k (hitsOf q (rs.take c))).toArray ∧
  (∀ g, vh.ownBlock = some g → w.heap.size ≤ g ∧ g < B1) ∧ Own w' B1 vs (srt (idsOf (rs.take c))) ∧ (∀ g, vs.ownBlock = some g → g < B2) ∧ RestAt w' B2 vr (rs.drop c)
theorem AnsB.set {w w' : World} {B1 B2 : Nat} {vh vs vr : Value} {rs : List Rw} {q : List Int} {k c : Nat} (h : AnsB w w' B1 B2 vh vs vr rs q k c) (hne : vh.ownBlock ≠ some w.heap.size) (h1 : vs.ownBlock ≠ some w.heap.size) (h2 : w.heap.size < B2) (o : Nat) (u : Value) :
    AnsB w (w'.setCell ⟨w.heap.size, o, none⟩ u) B1 B2 vh vs vr rs q k c := by
  obtain ⟨b1, b2, b3, g, t, b4, b5, b6, b7⟩ := h
  have gs := grown_setCell w' ⟨w.heap.size, o, none⟩ u
  refine ⟨b1, b2, by have := gs.size; omega, gb_set g (Nat.le_refl _) u, ?_, b4, b5.kept gs (.inr h1), b6, b7.grown gs h2⟩
  exact Tk.own_kp t (Tk.Kp.grown gs) fun x hx e => hne (by rw [hx, e])

end Go.Proofs.YtepjbdklljlecaaGreat
