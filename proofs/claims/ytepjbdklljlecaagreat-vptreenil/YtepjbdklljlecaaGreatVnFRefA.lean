/- Hits in a block of the call's own, by their places. -/
import Derived.Test.YtepjbdklljlecaaGreatVa12
import Derived.Test.YtepjbdklljlecaaGreatVa17
namespace Go.Proofs.YtepjbdklljlecaaGreat
open Go.RowKit Go.Sort

/-- Block g holds, at its head, the hits f 0 .. f (n - 1). -/
def HA (W : World) (g n cap : Nat) (f : Nat → Tk.Ht) : Prop :=
  ∃ cur : Array Value, W.heap[g]? = some (.cells cur 68 (0, 0)) ∧ cur.size = cap * 3 ∧ n ≤ cap ∧ cap ≤ maxLen ∧ ∀ i, i < n → cur[i * 3]? = some (.int .i64 (f i).1) ∧ cur[i * 3 + 1]? = some (.int .u64 (f i).2.1) ∧ cur[i * 3 + 2]? = some (.int .u64 (f i).2.2)
theorem HA.lt {W : World} {g n cap : Nat} {f : Nat → Tk.Ht} (h : HA W g n cap f) : g < W.heap.size := by
  obtain ⟨cur, h1, _⟩ := h; exact (Array.getElem?_eq_some_iff.1 h1).1
theorem HA.cell {W : World} {g n cap : Nat} {f : Nat → Tk.Ht} (h : HA W g n cap f) {i : Nat} (hi : i < n) : W.cell? ⟨g, i * 3, none⟩ = some (.int .i64 (f i).1) ∧ W.cell? ⟨g, i * 3 + 1, none⟩ = some (.int .u64 (f i).2.1) ∧ W.cell? ⟨g, i * 3 + 2, none⟩ = some (.int .u64 (f i).2.2) := by
  obtain ⟨cur, h1, _, _, _, h4⟩ := h
  obtain ⟨a, b, c⟩ := h4 i hi
  simp [World.cell?, h1, a, b, c]
theorem HA.frozen {W : World} {g n cap : Nat} {f : Nat → Tk.Ht} (h : HA W g n cap f) (o : Nat) : W.frozen? ⟨g, o, none⟩ = false := by
  obtain ⟨cur, h1, _⟩ := h
  simp [World.frozen?, h1]
theorem HA.block {W W' : World} {g n cap : Nat} {f : Nat → Tk.Ht} (h : HA W g n cap f) (e : W'.heap[g]? = W.heap[g]?) : HA W' g n cap f := by
  obtain ⟨cur, h1, h2⟩ := h
  exact ⟨cur, e.trans h1, h2⟩
theorem HA.congr {W : World} {g n cap : Nat} {f f' : Nat → Tk.Ht} (h : HA W g n cap f) (e : ∀ i, i < n → f i = f' i) : HA W g n cap f' := by
  obtain ⟨cur, h1, h2, h3, h4, h5⟩ := h
  exact ⟨cur, h1, h2, h3, h4, fun i hi => by rw [← e i hi]; exact h5 i hi⟩
theorem HA.set {W : World} {g n cap : Nat} {f : Nat → Tk.Ht} (h : HA W g n cap f) {i : Nat} (hi : i < n) (x : Tk.Ht) :
    HA (((W.setCell ⟨g, i * 3, none⟩ (.int .i64 x.1)).setCell ⟨g, i * 3 + 1, none⟩ (.int .u64 x.2.1)).setCell ⟨g, i * 3 + 2, none⟩ (.int .u64 x.2.2)) g n cap (fun t => if t = i then x else f t) := by
  obtain ⟨cur, h1, h2, h3, h4, h5⟩ := h
  refine ⟨((cur.setIfInBounds (i * 3) (.int .i64 x.1)).setIfInBounds (i * 3 + 1) (.int .u64 x.2.1)).setIfInBounds (i * 3 + 2) (.int .u64 x.2.2), ?_, by simpa using h2, h3, h4, fun t ht => ?_⟩
  · simp [World.setCell, Array.getElem?_modify, h1]
  · by_cases e : t = i
    · subst e
      simp only [if_true]
      refine ⟨?_, ?_, ?_⟩
      · rw [Array.getElem?_setIfInBounds_ne (by omega), Array.getElem?_setIfInBounds_ne (by omega), Array.getElem?_setIfInBounds_self_of_lt (by omega)]
      · rw [Array.getElem?_setIfInBounds_ne (by omega), Array.getElem?_setIfInBounds_self_of_lt (by simp; omega)]
      · rw [Array.getElem?_setIfInBounds_self_of_lt (by simp; omega)]
    · simp only [if_neg e]
      obtain ⟨a, b, c⟩ := h5 t ht
      refine ⟨?_, ?_, ?_⟩
      · rw [Array.getElem?_setIfInBounds_ne (by omega), Array.getElem?_setIfInBounds_ne (by omega), Array.getElem?_setIfInBounds_ne (by omega)]; exact a
      · rw [Array.getElem?_setIfInBounds_ne (by omega), Array.getElem?_setIfInBounds_ne (by omega), Array.getElem?_setIfInBounds_ne (by omega)]; exact b
      · rw [Array.getElem?_setIfInBounds_ne (by omega), Array.getElem?_setIfInBounds_ne (by omega), Array.getElem?_setIfInBounds_ne (by omega)]; exact c
theorem own_of_ha {W : World} {g cap : Nat} {l : List Tk.Ht} {f : Nat → Tk.Ht} (h : HA W g l.length cap f) (e : ∀ i, i < l.length → f i = l[i]!) : Tk.Own W (.slice (some ⟨g, 0, none⟩) l.length cap) l.toArray := by
  obtain ⟨cur, h1, h2, h3, h4, h5⟩ := h
  refine ⟨by rw [Tk.fl_len]; simp, .inr ⟨g, cap, cur, by simp, Nat.zero_le _, h1, by simpa using h3, h4, h2, ?_⟩⟩
  simp only [List.size_toArray]
  apply List.ext_getElem?
  intro j
  by_cases hj : j < l.length * 3
  · obtain ⟨i, c, hc, rfl⟩ : ∃ i c, c < 3 ∧ j = i * 3 + c := ⟨j / 3, j % 3, by omega, by omega⟩
    have hi : i < l.length := by omega
    rw [List.getElem?_take_of_lt hj, Array.getElem?_toList, Tk.fl_get l i c hi hc]
    obtain ⟨a, b, d⟩ := h5 i hi
    rw [e i hi, getElem!_pos l i hi] at a b d
    rcases c with _ | _ | _ | c
    · rw [Nat.add_zero]; exact a
    · exact b
    · exact d
    · omega
  · rw [List.getElem?_eq_none (by rw [List.length_take]; omega), List.getElem?_eq_none (by rw [Tk.fl_len]; simpa using hj)]
end Go.Proofs.YtepjbdklljlecaaGreat
