/- TopkOrder: plain facts; two heaps beside one another. -/
import Derived.Test.YtfefojgncemohaaAwake
import Derived.Test.YtfefojgncemohaaLess
namespace Go.Proofs.Ytfefojgncemohaa
open Go.RowKit Go.Sort

theorem firsts_firsts (k : Nat) (l : List Ht) : firsts k (firsts k l) = firsts k l := by
  rw [firsts, srt_of_srtd (firsts_srtd k l)]
  rw [List.take_of_length_le (by rw [firsts_len]; omega)]
theorem list_snoc {α : Type} {p : List α → Prop} (h0 : p []) (h1 : ∀ l x, p l → p (l ++ [x])) (l : List α) : p l := by
  have h : ∀ r : List α, p r.reverse := by
    intro r
    induction r with
    | nil => exact h0
    | cons a t ih => rw [List.reverse_cons]; exact h1 _ _ ih
  have := h l.reverse
  rwa [List.reverse_reverse] at this
theorem firsts_left (k : Nat) (A B : List Ht) : firsts k (firsts k A ++ B) = firsts k (A ++ B) := by
  induction B using list_snoc with
  | h0 => rw [List.append_nil, List.append_nil, firsts_firsts]
  | h1 l x ih => rw [← List.append_assoc, ← List.append_assoc, firsts_snoc, firsts_snoc, ih]
theorem firsts_parts (k : Nat) (A B : List Ht) : firsts k (firsts k A ++ firsts k B) = firsts k (A ++ B) := by
  rw [firsts_left, firsts_perm k List.perm_append_comm, firsts_left, firsts_perm k List.perm_append_comm]

/-- The hits that the second heap is offered, up to r. -/
def back (L : List Ht) (c r : Nat) : List Ht := (List.range r).map fun i => L[(c + L.length - 1 - i) % L.length]!
theorem back_succ (L : List Ht) (c r : Nat) : back L c (r + 1) = back L c r ++ [L[(c + L.length - 1 - r) % L.length]!] := by
  unfold back; rw [List.range_succ, List.map_append]; rfl
theorem back_all (L : List Ht) (c : Nat) (hc : c ≤ L.length) : (back L c L.length).Perm L := by
  have e : back L c L.length = (L.take c).reverse ++ (L.drop c).reverse := by
    apply List.ext_getElem
    · simp [back]; omega
    · intro i h1 h2
      have hi : i < L.length := by simpa [back] using h1
      have hm : (c + L.length - 1 - i) % L.length < L.length := Nat.mod_lt _ (by omega)
      have e1 : (back L c L.length)[i] = L[(c + L.length - 1 - i) % L.length] := by
        simp only [back, List.getElem_map, List.getElem_range]
        rw [getElem!_pos L _ hm]
      rw [e1]
      by_cases hic : i < c
      · have : (c + L.length - 1 - i) % L.length = c - 1 - i := by
          rw [show c + L.length - 1 - i = (c - 1 - i) + L.length by omega, Nat.add_mod_right, Nat.mod_eq_of_lt (by omega)]
        rw [List.getElem_append_left (by simp; omega), List.getElem_reverse, List.getElem_take]
        congr 1
        rw [this, List.length_take]; omega
      · have : (c + L.length - 1 - i) % L.length = c + L.length - 1 - i := Nat.mod_eq_of_lt (by omega)
        rw [List.getElem_append_right (by simp; omega), List.getElem_reverse, List.getElem_drop]
        congr 1
        simp [List.length_reverse, List.length_take, this]; omega
  rw [e]
  have h := (List.reverse_perm (L.take c)).append (List.reverse_perm (L.drop c))
  rwa [List.take_append_drop] at h

/-- Two heaps, apart from one another. -/
structure Two (w W : World) (h1 h2 k : Nat) (v1 v2 : Value) (m1 m2 : List Ht) : Prop where
  a : St w W h1 k v1 m1
  b : St w W h2 k v2 m2
  ne : h1 ≠ h2
  n1 : v1.ownBlock ≠ some h2
  n2 : v2.ownBlock ≠ some h1
  n3 : ∀ g, v1.ownBlock = some g → v2.ownBlock ≠ some g
theorem Two.on {w W W' : World} {h1 h2 k : Nat} {v1 v2 : Value} {m1 m2 : List Ht} (t : Two w W h1 h2 k v1 v2 m1 m2) (g : Gr W W') : Two w W' h1 h2 k v1 v2 m1 m2 := ⟨t.a.on g, t.b.on g, t.ne, t.n1, t.n2, t.n3⟩
theorem Two.swap {w W : World} {h1 h2 k : Nat} {v1 v2 : Value} {m1 m2 : List Ht} (t : Two w W h1 h2 k v1 v2 m1 m2) : Two w W h2 h1 k v2 v1 m2 m1 := ⟨t.b, t.a, Ne.symm t.ne, t.n2, t.n1, fun g h e => t.n3 g e h⟩
theorem Two.offer {w W W' : World} {h1 h2 k : Nat} {v1 v2 : Value} {m1 m2 : List Ht} {x : Ht} (t : Two w W h1 h2 k v1 v2 m1 m2) (o : Offered W W' h1 k v1 m1 x) : ∃ v', Two w W' h1 h2 k v' v2 (keep k m1 x) m2 := by
  obtain ⟨v', q1, q2, q3⟩ := o
  have hS : ∀ i, (i = h1 ∨ some i = v1.ownBlock) → w.heap.size ≤ i := by
    rintro i (e | e)
    · rw [e]; exact t.a.hb
    · exact t.a.own i e.symm
  refine ⟨v', ⟨q1, t.a.gr.trans (q2.gr t.a.gr.size hS), t.a.hb, ?_⟩, ⟨t.b.has.kp q2 ?_ ?_, t.a.gr.trans (q2.gr t.a.gr.size hS), t.b.hb, t.b.own⟩, t.ne, ?_, t.n2, ?_⟩
  · intro g hg
    rcases q3 with q3 | q3
    · exact t.a.own g (by rw [← q3]; exact hg)
    · exact Nat.le_trans t.a.gr.size (q3 g hg)
  · rintro (e | e)
    · exact t.ne e.symm
    · exact t.n1 e.symm
  · rintro g hg (e | e)
    · exact t.n2 (by rw [hg, e])
    · exact t.n3 g e.symm hg
  · intro e
    rcases q3 with q3 | q3
    · exact t.n1 (by rw [← q3]; exact e)
    · have := q3 h2 e; have := t.b.has.lt; omega
  · intro g hg e
    rcases q3 with q3 | q3
    · exact t.n3 g (by rw [← q3]; exact hg) e
    · have := q3 g hg; have := t.b.has.own_lt e; omega
theorem rd_take {w : World} {b o n c C : Nat} {L : List Ht} (h : Lies w b o L) (hn : n = L.length) (hc : c ≤ n) : Rd w (.slice (some ⟨b, o, none⟩) c C) (L.take c) := by
  refine .inr (.inr ⟨b, o, C, by rw [List.length_take, Nat.min_eq_left (by omega)], fun i hi => ?_⟩)
  have hi' : i < L.length := by rw [List.length_take] at hi; omega
  have e : (L.take c)[i]! = L[i]! := by rw [getElem!_pos _ i hi, getElem!_pos L i hi']; simp
  rw [e]; exact h i hi'
theorem rd_drop {w : World} {b o n c C : Nat} {L : List Ht} (h : Lies w b o L) (hn : n = L.length) : Rd w (.slice (some ⟨b, o + c * 3, none⟩) (n - c) C) (L.drop c) := by
  refine .inr (.inr ⟨b, o + c * 3, C, by rw [List.length_drop, hn], fun i hi => ?_⟩)
  have hi' : c + i < L.length := by rw [List.length_drop] at hi; omega
  have e : (L.drop c)[i]! = L[c + i]! := by rw [getElem!_pos _ i hi, getElem!_pos L (c + i) hi']; simp
  rw [e]
  have := h (c + i) hi'
  rw [show o + (c + i) * 3 = o + c * 3 + i * 3 by omega] at this
  exact this
theorem rdl_one (W : World) (t : TypeId) (u : Value) (l : List Ht) (h : Rd W u l) : RdL (W.alloc (.cells #[u] t)) (.slice (some ⟨W.heap.size, 0, none⟩) 1 1) [l] := by
  have g : Gr W (W.alloc (.cells #[u] t)) := by go_grown
  refine ⟨_, 1, rfl, fun i hi => ?_⟩
  obtain rfl : i = 0 := by simpa using hi
  exact ⟨W.heap.size, 0, u, rfl, by simp [go_sem], h.gr g⟩
theorem rdl_two (W : World) (t : TypeId) (u v : Value) (l m : List Ht) (h : Rd W u l) (h' : Rd W v m) : RdL (W.alloc (.cells #[u, v] t)) (.slice (some ⟨W.heap.size, 0, none⟩) 2 2) [l, m] := by
  have g : Gr W (W.alloc (.cells #[u, v] t)) := by go_grown
  refine ⟨_, 2, rfl, fun i hi => ?_⟩
  have : i = 0 ∨ i = 1 := by simp at hi; omega
  rcases this with rfl | rfl
  · exact ⟨W.heap.size, 0, u, rfl, by simp [go_sem], h.gr g⟩
  · exact ⟨W.heap.size, 0, v, rfl, by simp [go_sem], h'.gr g⟩
theorem merge_one (k : Nat) (k1 : 1 ≤ k) (k2 : k ≤ 64) {W : World} {u : Value} {l : List Ht} (t : TypeId) (h : Rd W u l) (hl : l.length ≤ 3000) :
    Calls Try.prog 23 #[.int .i64 (k : Int), .slice (some ⟨W.heap.size, 0, none⟩) 1 1] (W.alloc (.cells #[u] t)) fun e w' => ∃ v', e = .returned (.tuple #[v', .int .i64 0]) ∧ Out (W.alloc (.cells #[u] t)) w' v' (firsts k l) := by
  have := merge_c k k1 k2 (rdl_one W t u l h) (by simp) (by simp [tot]; omega)
  simpa using this
theorem merge_two (k : Nat) (k1 : 1 ≤ k) (k2 : k ≤ 64) {W : World} {u v : Value} {l m : List Ht} (t : TypeId) (h : Rd W u l) (h' : Rd W v m) (hl : l.length + m.length ≤ 3000) :
    Calls Try.prog 23 #[.int .i64 (k : Int), .slice (some ⟨W.heap.size, 0, none⟩) 2 2] (W.alloc (.cells #[u, v] t)) fun e w' => ∃ v', e = .returned (.tuple #[v', .int .i64 0]) ∧ Out (W.alloc (.cells #[u, v] t)) w' v' (firsts k (l ++ m)) := by
  have := merge_c k k1 k2 (rdl_two W t u v l m h h') (by simp) (by simp [tot]; omega)
  simpa using this
end Go.Proofs.Ytfefojgncemohaa
