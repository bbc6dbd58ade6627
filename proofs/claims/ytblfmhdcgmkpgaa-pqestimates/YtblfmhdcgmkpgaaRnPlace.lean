/- A permutation has each number once; rows of truths. -/
import Derived.Test.YtblfmhdcgmkpgaaRnPerm
namespace Go.Proofs.Ytblfmhdcgmkpgaa.Rn
open Go.RowKit Go.Shelf

/-- f 0 .. f (n - 1) are the numbers below n, each once. -/
def Per (n : Nat) (f : Nat → Int) : Prop := (∀ i, i < n → 0 ≤ f i ∧ f i < n) ∧ ∀ i j, i < n → j < n → f i = f j → i = j
theorem per_id (n : Nat) : Per n (fun t => (t : Int)) := ⟨fun i hi => ⟨Int.natCast_nonneg i, by dsimp only; omega⟩, fun i j _ _ h => by dsimp only at h; omega⟩
/-- Where a place's number comes from. -/
def sg (i j t : Nat) : Nat := if t = j then i else if t = i then j else t
theorem swp_sg (f : Nat → Int) (i j t : Nat) : swp f i j t = f (sg i j t) := by
  unfold swp sg
  split
  · rfl
  · split <;> rfl
theorem sg_lt {n i j t : Nat} (hi : i < n) (hj : j < n) (ht : t < n) : sg i j t < n := by
  unfold sg; split
  · exact hi
  · split
    · exact hj
    · exact ht
theorem sg_inj {i j a b : Nat} (h : sg i j a = sg i j b) : a = b := by
  unfold sg at h
  by_cases a1 : a = j <;> by_cases a2 : a = i <;> by_cases b1 : b = j <;> by_cases b2 : b = i <;> simp only [if_pos, if_neg, a1, a2, b1, b2, not_false_eq_true] at h <;> (try split at h) <;> omega
theorem Per.swp {n : Nat} {f : Nat → Int} (h : Per n f) {i j : Nat} (hi : i < n) (hj : j < n) : Per n (swp f i j) :=
  ⟨fun t ht => by rw [swp_sg]; exact h.1 _ (sg_lt hi hj ht), fun a b ha hb e => by
    rw [swp_sg, swp_sg] at e
    exact sg_inj (h.2 _ _ (sg_lt hi hj ha) (sg_lt hi hj hb) e)⟩
theorem per_pS (x : Int) (n : Nat) : ∀ k, k ≤ n - 1 → Per n (pS x n k)
  | 0, _ => per_id n
  | k + 1, hk => by
    have hz := u_mx (stN x (k + 1))
    have r1 := Int.emod_nonneg (mx (stN x (k + 1))) (b := ((n - 1 - k : Nat) : Int) + 1) (by omega)
    have r2 := Int.emod_lt_of_pos (mx (stN x (k + 1))) (b := ((n - 1 - k : Nat) : Int) + 1) (by omega)
    exact Per.swp (per_pS x n k (by omega)) (by omega) (by omega)

/-- Block g holds n truths. -/
def Bl (w : World) (g n : Nat) (f : Nat → Bool) : Prop :=
  ∃ cur : Array Value, w.heap[g]? = some (.cells cur 4 (0, 0)) ∧ cur.size = n ∧ ∀ i, i < n → cur[i]? = some (.bool (f i))
theorem Bl.cell {w : World} {g n : Nat} {f : Nat → Bool} (h : Bl w g n f) {i : Nat} (hi : i < n) : w.cell? ⟨g, i, none⟩ = some (.bool (f i)) := by
  obtain ⟨cur, h1, _, h4⟩ := h
  simp [World.cell?, h1, h4 i hi]
theorem Bl.frozen {w : World} {g n : Nat} {f : Nat → Bool} (h : Bl w g n f) (i : Nat) : w.frozen? ⟨g, i, none⟩ = false := by
  obtain ⟨cur, h1, _⟩ := h
  simp [World.frozen?, h1]
theorem Bl.set {w : World} {g n : Nat} {f : Nat → Bool} (h : Bl w g n f) {i : Nat} (hi : i < n) (x : Bool) :
    Bl (w.setCell ⟨g, i, none⟩ (.bool x)) g n (fun t => if t = i then x else f t) := by
  obtain ⟨cur, h1, h2, h4⟩ := h
  refine ⟨cur.setIfInBounds i (.bool x), ?_, by simpa using h2, fun t ht => ?_⟩
  · simp [World.setCell, Array.getElem?_modify, h1]
  · by_cases e : t = i
    · subst e; simp [Array.getElem?_setIfInBounds]; omega
    · rw [Array.getElem?_setIfInBounds_ne (Ne.symm e), h4 t ht]; simp only [if_neg e]
theorem bl_made (w : World) (n : Nat) : Bl (w.alloc (.cells (madeCells #[Value.bool false] n) 4)) w.heap.size n (fun _ => false) := by
  refine ⟨_, World.alloc_heap_new w _, size_madeCells _ _, fun i hi => ?_⟩
  simp [madeCells, hi, Nat.mod_one]
theorem Try.info4' : (Try.prog.info? 4).map (fun i => (i.zero, i.size, i.bytes)) = some (some (.bool false), 1, 1) := by kernel_rfl

/-- Which numbers have come among the first k. -/
def seenB (f : Nat → Int) (k : Nat) (j : Nat) : Bool := (List.range k).any (fun i => decide (f i = (j : Int)))
theorem seen_no {n : Nat} {f : Nat → Int} (h : Per n f) {k j : Nat} (hk : k < n) (hj : f k = (j : Int)) : seenB f k j = false := by
  unfold seenB
  rw [List.any_eq_false]
  intro i hi
  have hi' : i < k := List.mem_range.1 hi
  simp only [decide_eq_true_eq]
  intro e
  have := h.2 i k (by omega) hk (e.trans hj.symm)
  omega
theorem seen_succ (f : Nat → Int) (k j : Nat) (hj : f k = (j : Int)) : seenB f (k + 1) = fun t => if t = j then true else seenB f k t := by
  funext t
  unfold seenB
  rw [List.range_succ, List.any_append]
  by_cases e : t = j
  · subst e; simp [hj]
  · have : ¬ f k = (t : Int) := by omega
    simp [e, this]

end Go.Proofs.Ytblfmhdcgmkpgaa.Rn
