/- The reference's Hits: all rows' hits in their order, by laying each in among those ahead. -/
import Derived.Test.YtepjbdklljlecaaGreatVnFRefA
import Derived.Test.YtepjbdklljlecaaGreatVnFBig
import Derived.Test.YtepjbdklljlecaaGreatVnFar
namespace Go.Proofs.YtepjbdklljlecaaGreat
open Go.RowKit Go.Sort Go.Maps

theorem ins_at (x : Tk.Ht) : ∀ (l : List Tk.Ht) (q : Nat), (∀ i, i < q → Tk.hlt x l[i]! = false) → q ≤ l.length → (q < l.length → Tk.hlt x l[q]! = true) → Tk.ins x l = l.take q ++ x :: l.drop q
  | [], q, _, hq, _ => by
    obtain rfl : q = 0 := by simpa using hq
    rfl
  | y :: r, 0, _, _, h => by
    have := h (by simp)
    simp only [List.getElem!_cons_zero] at this
    unfold Tk.ins
    rw [if_pos this]; rfl
  | y :: r, q + 1, h1, h2, h3 => by
    have h0 := h1 0 (by omega)
    simp only [List.getElem!_cons_zero] at h0
    unfold Tk.ins
    rw [if_neg (by rw [h0]; simp), ins_at x r q (fun i hi => by have := h1 (i + 1) (by omega); simpa using this) (by simpa using h2) (fun hq => by have := h3 (by simpa using hq); simpa using this)]
    rfl
/-- Three cells hold a hit. -/
structure H3 (W : World) (b : Nat) (x : Tk.Ht) : Prop where
  c0 : W.cell? ⟨b, 0, none⟩ = some (.int .i64 x.1)
  c1 : W.cell? ⟨b, 1, none⟩ = some (.int .u64 x.2.1)
  c2 : W.cell? ⟨b, 2, none⟩ = some (.int .u64 x.2.2)
theorem H3.gb {W W' : World} {b : Nat} {x : Tk.Ht} (h : H3 W b x) (g : Gb W W') : H3 W' b x := ⟨gb_keeps g h.c0, gb_keeps g h.c1, gb_keeps g h.c2⟩
theorem H3.new (W : World) (x : Tk.Ht) (t : TypeId) : H3 (W.alloc (.cells #[.int .i64 x.1, .int .u64 x.2.1, .int .u64 x.2.2] t)) W.heap.size x := ⟨by simp [go_sem], by simp [go_sem], by simp [go_sem]⟩
theorem H3.block {W W' : World} {b : Nat} {x : Tk.Ht} (h : H3 W b x) (e : W'.heap[b]? = W.heap[b]?) : H3 W' b x :=
  ⟨(World.cell?_of_block (a := ⟨b, 0, none⟩) e).trans h.c0, (World.cell?_of_block (a := ⟨b, 1, none⟩) e).trans h.c1, (World.cell?_of_block (a := ⟨b, 2, none⟩) e).trans h.c2⟩
/-- What the region holds while it draws. -/
structure Hs (w W : World) (a b : Addr) (u v : Value) : Prop where
  gb : Gb w W
  ca : W.cell? a = some u
  cb : W.cell? b = some v
  la : a.block < w.heap.size
  lb : b.block < w.heap.size
theorem Hs.gr {w W W' : World} {a b : Addr} {u v : Value} (h : Hs w W a b u v) (g : Gb W W') : Hs w W' a b u v := ⟨gb_trans h.gb g, gb_keeps g h.ca, gb_keeps g h.cb, h.la, h.lb⟩
theorem Hs.set {w W : World} {a b : Addr} {u v : Value} {B : Nat} (h : Hs w W a b u v) (hB : w.heap.size ≤ B) (x y z : Value) : Hs w (((W.setCell ⟨B, 0, none⟩ x).setCell ⟨B, 1, none⟩ y).setCell ⟨B, 2, none⟩ z) a b u v := by
  have far : ∀ {p : Addr} {q : Value}, p.block ≠ B → W.cell? p = some q → (((W.setCell ⟨B, 0, none⟩ x).setCell ⟨B, 1, none⟩ y).setCell ⟨B, 2, none⟩ z).cell? p = some q := fun {p q} hp hc => by
    refine (World.cell?_of_block (Below.heap_setCell _ _ _ _ (by dsimp only; exact hp))).trans ?_
    refine (World.cell?_of_block (Below.heap_setCell _ _ _ _ (by dsimp only; exact hp))).trans ?_
    exact (World.cell?_of_block (Below.heap_setCell _ _ _ _ (by dsimp only; exact hp))).trans hc
  have ha := h.la
  have hb := h.lb
  exact ⟨gb_set (gb_set (gb_set h.gb (by dsimp only; exact hB) _) (by dsimp only; exact hB) _) (by dsimp only; exact hB) _, far (by omega) h.ca, far (by omega) h.cb, h.la, h.lb⟩
/-- A hit is laid in among others. -/
structure Lay (w W : World) (g n cap Bh k : Nat) (L : List Tk.Ht) (x : Tk.Ht) : Prop where
  arr : ∃ f, HA W g (n + 1) cap f ∧ (∀ t, t < k → f t = L[t]!) ∧ ∀ t, k < t → t ≤ n → f t = L[t - 1]!
  box : H3 W Bh x
  gb : Gb w W
  hg : w.heap.size ≤ g
  ne : Bh ≠ g
  more : ∀ t, k ≤ t → t < n → Tk.hlt x L[t]! = true
theorem Lay.gr {w W W' : World} {g n cap Bh k : Nat} {L : List Tk.Ht} {x : Tk.Ht} (h : Lay w W g n cap Bh k L x) (g' : Gb W W') : Lay w W' g n cap Bh k L x := by
  obtain ⟨f, h1, h2⟩ := h.arr
  exact ⟨⟨f, h1.block (g'.block _ h1.lt), h2⟩, h.box.gb g', gb_trans h.gb g', h.hg, h.ne, h.more⟩
theorem three_gb {g : Nat} {w W : World} (h : Gb w W) (hg : w.heap.size ≤ g) (o1 o2 o3 : Nat) (x y z : Value) : Gb w (((W.setCell ⟨g, o1, none⟩ x).setCell ⟨g, o2, none⟩ y).setCell ⟨g, o3, none⟩ z) :=
  gb_set (gb_set (gb_set h (by dsimp only; exact hg) _) (by dsimp only; exact hg) _) (by dsimp only; exact hg) _
theorem three_far {g b : Nat} {W : World} (hn : b ≠ g) (o1 o2 o3 : Nat) (x y z : Value) : (((W.setCell ⟨g, o1, none⟩ x).setCell ⟨g, o2, none⟩ y).setCell ⟨g, o3, none⟩ z).heap[b]? = W.heap[b]? :=
  (Below.heap_setCell _ _ _ _ (by dsimp only; exact hn)).trans ((Below.heap_setCell _ _ _ _ (by dsimp only; exact hn)).trans (Below.heap_setCell _ _ _ _ (by dsimp only; exact hn)))
/-- One place on. -/
theorem Lay.down {w W : World} {g n cap Bh k : Nat} {L : List Tk.Ht} {x : Tk.Ht} (h : Lay w W g n cap Bh (k + 1) L x) (hk : k + 1 ≤ n) (hx : Tk.hlt x L[k]! = true) :
    Lay w (((W.setCell ⟨g, (k + 1) * 3, none⟩ (.int .i64 L[k]!.1)).setCell ⟨g, (k + 1) * 3 + 1, none⟩ (.int .u64 L[k]!.2.1)).setCell ⟨g, (k + 1) * 3 + 2, none⟩ (.int .u64 L[k]!.2.2)) g n cap Bh k L x := by
  obtain ⟨f, h1, h2, h3⟩ := h.arr
  refine ⟨⟨_, h1.set (i := k + 1) (by omega) L[k]!, fun t ht => ?_, fun t ht1 ht2 => ?_⟩, h.box.block (three_far h.ne _ _ _ _ _ _), three_gb h.gb h.hg _ _ _ _ _ _, h.hg, h.ne, fun t ht1 ht2 => ?_⟩
  · rw [if_neg (by omega)]; exact h2 t (by omega)
  · by_cases e : t = k + 1
    · subst e; rw [if_pos rfl]; rfl
    · rw [if_neg e]; exact h3 t (by omega) ht2
  · by_cases e : t = k
    · subst e; exact hx
    · exact h.more t (by omega) ht2
/-- It lies. -/
theorem Lay.done {w W : World} {g n cap Bh k : Nat} {L : List Tk.Ht} {x : Tk.Ht} (h : Lay w W g n cap Bh k L x) (hk : k ≤ n) (hn : L.length = n) (hS : Tk.Srtd L) (hx : k = 0 ∨ Tk.hlt x L[k - 1]! = false) :
    OutH w (((W.setCell ⟨g, k * 3, none⟩ (.int .i64 x.1)).setCell ⟨g, k * 3 + 1, none⟩ (.int .u64 x.2.1)).setCell ⟨g, k * 3 + 2, none⟩ (.int .u64 x.2.2)) (.slice (some ⟨g, 0, none⟩) (n + 1) cap) (Tk.ins x L) := by
  obtain ⟨f, h1, h2, h3⟩ := h.arr
  have hahead : ∀ i, i < k → Tk.hlt x L[i]! = false := fun i hi => by
    rcases hx with e | e
    · omega
    · by_cases e2 : i = k - 1
      · rw [e2]; exact e
      · have := List.pairwise_iff_getElem.1 hS i (k - 1) (by omega) (by omega) (by omega)
        rw [← getElem!_pos L i (by omega), ← getElem!_pos L (k - 1) (by omega)] at this
        exact Tk.hlt_ntrans e this
  have hins := ins_at x L k hahead (by omega) (fun hq => h.more k (Nat.le_refl _) (by omega))
  have hl : (Tk.ins x L).length = n + 1 := by rw [Tk.ins_len, hn]
  refine ⟨?_, three_gb h.gb h.hg _ _ _ _ _ _, fun b e => by cases e; exact h.hg⟩
  have h4 := h1.set (i := k) (by omega) x
  rw [← hl] at h4 ⊢
  refine own_of_ha h4 (fun i hi => ?_)
  rw [getElem!_pos (Tk.ins x L) i hi]
  have : ∀ (M : List Tk.Ht) (hM : M = Tk.ins x L) (hi' : i < M.length), (Tk.ins x L)[i] = M[i] := fun M hM _ => by subst hM; rfl
  rw [this _ hins.symm (by rw [← hins]; exact hi)]
  by_cases e : i = k
  · subst e; rw [if_pos rfl, List.getElem_append_right (by rw [List.length_take]; omega)]
    simp only [List.length_take]
    rw [List.getElem_cons]
    simp
    omega
  · rw [if_neg e]
    by_cases e2 : i < k
    · rw [h2 i e2, List.getElem_append_left (by rw [List.length_take]; omega), List.getElem_take, getElem!_pos L i (by omega)]
    · rw [h3 i (by omega) (by omega), List.getElem_append_right (by rw [List.length_take]; omega)]
      rw [getElem!_pos L (i - 1) (by omega)]
      rw [List.getElem_cons]
      have e3 : ¬ (i - (List.take k L).length = 0) := by rw [List.length_take]; omega
      rw [dif_neg e3, List.getElem_drop]
      congr 1
      rw [List.length_take]; omega
end Go.Proofs.YtepjbdklljlecaaGreat
