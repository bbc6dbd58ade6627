/- The reference's With: a rising list with one more. -/
import Derived.Test.YtmlincnmhjkjgaaCyIds
import Derived.Laws.AppendOwnNone
namespace Go.Proofs.Ytmlincnmhjkjgaa
open Go.RowKit Go.Sort Go.Maps

def SrtI (l : List Int) : Prop := l.Pairwise fun x y => x ≤ y
theorem srt_perm (l : List Int) : (srt l).Perm l := List.mergeSort_perm l _
theorem srt_srtI (l : List Int) : SrtI (srt l) := by
  have h := List.pairwise_mergeSort (le := fun x y : Int => decide (x ≤ y)) (fun a b c h1 h2 => by
    simp only [decide_eq_true_eq] at *; omega) (fun a b => by
    by_cases h : a ≤ b
    · simp [h]
    · have : b ≤ a := by omega
      simp [this]) l
  exact h.imp (fun h => by simpa using h)
theorem srtI_unique : ∀ (l l' : List Int), SrtI l → SrtI l' → l.Perm l' → l = l'
  | [], l', _, _, p => (List.Perm.nil_eq p)
  | a :: r, [], _, _, p => absurd p.length_eq (by simp)
  | a :: r, b :: r', h, h', p => by
    have hb : b ∈ a :: r := p.symm.subset List.mem_cons_self
    have ha : a ∈ b :: r' := p.subset List.mem_cons_self
    have e : a = b := by
      rcases List.mem_cons.1 hb with e | hb
      · exact e.symm
      rcases List.mem_cons.1 ha with e | ha
      · exact e
      have h1 := List.rel_of_pairwise_cons h hb
      have h2 := List.rel_of_pairwise_cons h' ha
      omega
    subst e
    rw [srtI_unique r r' (List.Pairwise.of_cons h) (List.Pairwise.of_cons h') (List.Perm.cons_inv p)]
def insI (x : Int) : List Int → List Int
  | [] => [x]
  | y :: r => if y < x then y :: insI x r else x :: y :: r
theorem insI_perm (x : Int) : ∀ l, (insI x l).Perm (x :: l)
  | [] => List.Perm.refl _
  | y :: r => by
    unfold insI
    split
    · exact ((insI_perm x r).cons y).trans (List.Perm.swap x y r)
    · exact List.Perm.refl _
theorem insI_len (x : Int) (l : List Int) : (insI x l).length = l.length + 1 := by rw [(insI_perm x l).length_eq]; rfl
theorem insI_srtI (x : Int) : ∀ l, SrtI l → SrtI (insI x l)
  | [], _ => List.pairwise_singleton _ _
  | y :: r, h => by
    unfold insI
    split
    · rename_i hx
      refine List.Pairwise.cons ?_ (insI_srtI x r (List.Pairwise.of_cons h))
      intro z hz
      rcases List.mem_cons.1 ((insI_perm x r).subset hz) with rfl | hz
      · omega
      · exact List.rel_of_pairwise_cons h hz
    · rename_i hx
      refine List.Pairwise.cons ?_ h
      intro z hz
      rcases List.mem_cons.1 hz with rfl | hz
      · omega
      · have := List.rel_of_pairwise_cons h hz; omega
theorem srt_snocI (l : List Int) (x : Int) : srt (l ++ [x]) = insI x (srt l) := by
  refine srtI_unique _ _ (srt_srtI _) (insI_srtI x _ (srt_srtI l)) ?_
  refine (srt_perm _).trans (List.Perm.trans ?_ (insI_perm x _).symm)
  exact (List.perm_append_singleton x l).trans ((srt_perm l).symm.cons x)
theorem insI_at (x : Int) : ∀ (l : List Int) (q : Nat), (∀ i, i < q → l[i]! < x) → q ≤ l.length → (q < l.length → ¬ l[q]! < x) → insI x l = l.take q ++ [x] ++ l.drop q
  | [], q, _, hq, _ => by
    obtain rfl : q = 0 := by simpa using hq
    rfl
  | y :: r, 0, _, _, h => by
    have := h (by simp)
    simp only [List.getElem!_cons_zero] at this
    unfold insI
    rw [if_neg this]; rfl
  | y :: r, q + 1, h1, h2, h3 => by
    have h0 := h1 0 (by omega)
    simp only [List.getElem!_cons_zero] at h0
    unfold insI
    rw [if_pos h0, insI_at x r q (fun i hi => by have := h1 (i + 1) (by omega); simpa using this) (by simpa using h2) (fun hq => by have := h3 (by simpa using hq); simpa using this)]
    rfl
theorem news_take {w : World} {g cap : Nat} {l : List Int} (h : RdI w (.slice (some ⟨g, 0, none⟩) l.length cap) l) (q : Nat) : ∀ j u, ((l.take q).map (Value.int .i64))[j]? = some u → w.cell? ((⟨g, 0, none⟩ : Addr).add j) = some u := by
  intro j u hj
  rw [List.getElem?_map] at hj
  obtain ⟨y, hy, rfl⟩ := Option.map_eq_some_iff.1 hj
  obtain ⟨hjl, hy⟩ := List.getElem?_eq_some_iff.1 hy
  obtain ⟨a', c', e, ha⟩ := h
  cases e
  have hj' : j < l.length := by rw [List.length_take] at hjl; omega
  obtain ⟨b', o', e, hc⟩ := ha j hj'
  cases e
  rw [Addr.add_lit, hc, getElem!_pos l j hj', ← hy]; simp
theorem news_drop {w : World} {g cap : Nat} {l : List Int} (h : RdI w (.slice (some ⟨g, 0, none⟩) l.length cap) l) (q : Nat) : ∀ j u, ((l.drop q).map (Value.int .i64))[j]? = some u → w.cell? ((⟨g, q, none⟩ : Addr).add j) = some u := by
  intro j u hj
  rw [List.getElem?_map] at hj
  obtain ⟨y, hy, rfl⟩ := Option.map_eq_some_iff.1 hj
  obtain ⟨hjl, hy⟩ := List.getElem?_eq_some_iff.1 hy
  obtain ⟨a', c', e, ha⟩ := h
  cases e
  have hj' : q + j < l.length := by rw [List.length_drop] at hjl; omega
  obtain ⟨b', o', e, hc⟩ := ha (q + j) hj'
  cases e
  rw [Nat.zero_add] at hc
  rw [Addr.add_lit, hc, getElem!_pos l (q + j) hj', ← hy]; simp

theorem rwith_gb {w W w1 w2 : World} {o : Obj} {v1 : Value} {n : Nat} {xs : List Value} (G : Gb w W) (h1 : W.grownBy w1 (Value.ownBlock (.slice none 0 0))) (ho : w1.ownsRow w.heap.size 3 1 v1 n xs) (h2 : (w1.alloc o).grownBy w2 v1.ownBlock) : Gb w w2 := by
  have g1 : Gb w w1 := below_grown G h1 (fun k e => by cases e) G.size
  exact below_grown (gb_alloc g1 o) h2 (fun k e => (ho.lt k e).1) (gb_alloc g1 o).size
theorem rwith_fin {w w2 w3 : World} {v2 v3 : Value} {n m q : Nat} {xs : List Value} {x : Int} {l : List Int} (G : Gb w w2) (h3 : w3.ownsRow w.heap.size 3 1 v3 (n + m) ([] ++ (l.take q).map (Value.int .i64) ++ [.int .i64 x] ++ (l.drop q).map (Value.int .i64)))
    (h2 : w2.ownsRow w.heap.size 3 1 v2 n xs) (hg : w2.grownBy w3 v2.ownBlock) (hi : insI x l = l.take q ++ [x] ++ l.drop q) (hs : n + m = l.length + 1) : Own w3 w.heap.size v3 (insI x l) ∧ Gb w w3 := by
  refine ⟨?_, below_grown G hg (fun k e => (h2.lt k e).1) G.size⟩
  unfold Own
  rw [insI_len, ← hs, hi]
  simpa using h3

end Go.Proofs.Ytmlincnmhjkjgaa
