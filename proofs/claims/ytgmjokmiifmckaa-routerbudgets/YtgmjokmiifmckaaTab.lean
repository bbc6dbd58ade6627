/- Lists of numbers by their places, in a seat without boxes. -/
import Derived.Test.YtgmjokmiifmckaaOwnI
namespace Go.Proofs.Ytgmjokmiifmckaa
open Go.RowKit Go.Sort

/-- A list of n numbers, told by a function. -/
def tab (f : Nat → Int) (n : Nat) : List Int := (List.range n).map f
theorem tab_len (f : Nat → Int) (n : Nat) : (tab f n).length = n := by simp [tab]
theorem tab_get (f : Nat → Int) {n i : Nat} (h : i < n) : (tab f n)[i]! = f i := by
  rw [getElem!_pos _ i (by simpa [tab] using h)]; simp [tab]
theorem tab_ext {f g : Nat → Int} {n : Nat} (h : ∀ i, i < n → f i = g i) : tab f n = tab g n := by
  unfold tab
  exact List.map_congr_left (fun i hi => h i (List.mem_range.1 hi))
theorem tab_of (l : List Int) : l = tab (fun i => l[i]!) l.length := by
  apply List.ext_getElem (by simp [tab])
  intro i h1 h2
  simp [tab, h1]

theorem own_set {w : World} {B g cap n i : Nat} {f : Nat → Int} (h : Own w B (.slice (some ⟨g, 0, none⟩) n cap) (tab f n)) (hi : i < n) (x : Int) :
    Own (w.setCell ⟨g, i, none⟩ (.int .i64 x)) B (.slice (some ⟨g, 0, none⟩) n cap) (tab (fun t => if t = i then x else f t) n) := by
  unfold Own at *
  rw [tab_len] at *
  refine ⟨by simp [tab], ?_⟩
  rcases h.2 with ⟨e, _⟩ | ⟨g', cap', cur, e, hb, hh, h1, h2, h3, h4⟩
  · cases e
  · cases e
    have hgl : g < w.heap.size := (Array.getElem?_eq_some_iff.1 hh).1
    refine .inr ⟨g, cap, cur.setIfInBounds i (.int .i64 x), rfl, hb, ?_, h1, h2, by simpa using h3, ?_⟩
    · simp [World.setCell, Array.getElem?_modify, hh]
    · rw [Nat.mul_one] at *
      apply List.ext_getElem?
      intro t
      have h5 : (cur.toList.take n)[t]? = ((tab f n).map (Value.int .i64))[t]? := by rw [h4]
      by_cases ht : t < n
      · rw [List.getElem?_take_of_lt ht] at h5 ⊢
        have hts : t < cur.size := by omega
        by_cases e : t = i
        · subst e
          simp [tab, ht, hts]
        · have e' : i ≠ t := fun k => e k.symm
          simp [tab, ht, hts, e, e'] at h5 ⊢
          exact h5
      · rw [List.getElem?_take_eq_none (by omega), List.getElem?_eq_none (by simp [tab]; omega)]
theorem Own.at {w : World} {B g cap n i : Nat} {f : Nat → Int} (h : Own w B (.slice (some ⟨g, 0, none⟩) n cap) (tab f n)) (hi : i < n) : w.cell? ⟨g, i, none⟩ = some (.int .i64 (f i)) ∧ w.frozen? ⟨g, i, none⟩ = false := by
  constructor
  · have := World.ownsRow.cells h (g := g) rfl i (.int .i64 (f i)) (by simp [tab, hi])
    rwa [Addr.add_lit, Nat.zero_add] at this
  · have h' := h
    unfold Own at h'
    rw [tab_len] at h'
    rcases h'.2 with ⟨e, _⟩ | ⟨g', cap', cur, e, hb, hh, _⟩
    · cases e
    · cases e
      simp [World.frozen?, hh]

theorem Try.info3 : (Try.prog.info? 3).map (fun i => (i.zero, i.size, i.bytes)) = some (some (.int .i64 0), 1, 8) := by kernel_rfl
end Go.Proofs.Ytgmjokmiifmckaa
