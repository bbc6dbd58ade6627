import Derived.Test.YtepjbdklljlecaaGreatVb48
import Derived.Test.YtepjbdklljlecaaGreatVb45
/- The law's tree: it lies in blocks that are younger than what was handed in. -/
namespace Go.Proofs.YtepjbdklljlecaaGreat
open Go.RowKit Go.Sort

/-- The law's tree. -/
def TrW (Iq : Nat → Prop) (w0 : World) (tb m leaf : Nat) (rs : List Rw) (W : World) : Prop := ∃ F, TreeAt Iq W tb m leaf rs F ∧ (∀ x ∈ F, w0.heap.size ≤ x) ∧ Gb w0 W
theorem TrW.gb {Iq : Nat → Prop} {w0 W W' : World} {tb m leaf : Nat} {rs : List Rw} (h : TrW Iq w0 tb m leaf rs W) (g : Gb W W') : TrW Iq w0 tb m leaf rs W' := by
  obtain ⟨F, t, hF, g0⟩ := h
  exact ⟨F, t.gb g, hF, gb_trans g0 g⟩
theorem TrW.old {Iq : Nat → Prop} {w0 W : World} {tb m leaf : Nat} {rs : List Rw} (h : TrW Iq w0 tb m leaf rs W) : Gb w0 W := by
  obtain ⟨_, _, _, g⟩ := h
  exact g
theorem TrW.out {Iq : Nat → Prop} {w0 W W' : World} {tb m leaf : Nat} {rs' : List Rw} {F : List Nat} (hF : ∀ x ∈ F, w0.heap.size ≤ x) (g : Gb w0 W) (h : TOut Iq W tb m leaf F rs' W') : TrW Iq w0 tb m leaf rs' W' := by
  obtain ⟨F', t, l, k⟩ := h
  have s := g.size
  refine ⟨F', t, fun x hx => ?_, g.trans (k.gr s hF)⟩
  rcases l x hx with h | h
  · exact hF x h
  · omega
end Go.Proofs.YtepjbdklljlecaaGreat

/- A tree whose numbers' blocks are told otherwise; what writes elsewhere leaves it. -/
namespace Go.Proofs.YtepjbdklljlecaaGreat
open Go.RowKit Go.Sort

theorem TreeAt.kq {Iq S : Nat → Prop} {w w' : World} {tb m leaf : Nat} {rs : List Rw} {F : List Nat} (h : TreeAt Iq w tb m leaf rs F) (k : Tk.Kp S w w') (hS : NoI Iq w S) (hF : ∀ x ∈ F, ¬ S x) : TreeAt Iq w' tb m leaf rs F := by
  obtain ⟨g, cap, sb, d, rt, F1, h1, h2, h3, h4, h5, h6, rfl, h8, h9, h10, h11⟩ := h
  refine ⟨g, cap, sb, d, rt, F1, ?_, h2.kq k hS (fun g' e => by cases e; exact hF g (by simp)), h3, h4, h5, ?_, rfl, h8, h9, h10, kp_src h11 k (hF sb (by simp))⟩
  · rw [k.block tb (Array.getElem?_eq_some_iff.1 h1).1 (hF tb (by simp))]; exact h1
  · rcases h6 with h | ⟨b, T, e1, e2, t⟩
    · exact .inl h
    · exact .inr ⟨b, T, e1, e2, fun N hN => ⟨TrO.kq k hS _ _ _ (t N hN).1 (fun x hx => hF x (by simp [hx])), (t N hN).2⟩⟩
/-- What writes over blocks that are elder than the tree leaves it. -/
theorem TreeAt.mid {B T : Nat} {w w' : World} {tb m leaf : Nat} {rs : List Rw} {F : List Nat} (h : TreeAt (fun k => T ≤ k) w tb m leaf rs F) (k : Mid B T w w') (hF : ∀ x ∈ F, T ≤ x) : TreeAt (fun k => T ≤ k) w' tb m leaf rs F := by
  refine h.kq (S := fun k => B ≤ k ∧ k < T) ⟨k.os, k.tape, k.output, k.size, fun j hj hn => k.block j hj (by omega)⟩ (NoI.off fun j hj => by omega) (fun x hx hs => ?_)
  have := hF x hx
  omega
/-- What writes over one block that the tree has not leaves it. -/
theorem TreeAt.one {L : Nat} {w w' : World} {tb m leaf : Nat} {rs : List Rw} {F : List Nat} (h : TreeAt (fun k => k ≠ L) w tb m leaf rs F) (k : w.grownBy w' (some L)) (hF : L ∉ F) : TreeAt (fun k => k ≠ L) w' tb m leaf rs F :=
  h.kq (S := fun k => k = L) ⟨k.os, k.tape, k.output, k.size, fun j hj hn => k.block j hj (by simpa using hn)⟩ (NoI.off fun j hj => by simpa using hj) (fun x hx hs => hF (hs ▸ hx))
end Go.Proofs.YtepjbdklljlecaaGreat
