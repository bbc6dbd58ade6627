/- TopkMerges: the lists that the law lays out on its own. -/
import Derived.Test.YtfefojgncemohaaCopy
import Derived.Test.YtfefojgncemohaaTotal
import Derived.Test.YtfefojgncemohaaMerge
import Derived.Test.YtfefojgncemohaaFirst
import Derived.Test.YtfefojgncemohaaSpoil
import Derived.Test.YtfefojgncemohaaAwake
import Derived.Maps.AppendAt
namespace Go.Proofs.Ytfefojgncemohaa
open Go.RowKit Go.Sort

/-- The hit that stands behind each list. -/
abbrev mk : Ht := (-7, 0, 7)
abbrev lvv (g : Nat) (l : List Ht) : Value := .slice (some ⟨g, 0, none⟩) l.length (l.length + 1)
/-- Block g holds l and the mark. -/
def LH (W : World) (g : Nat) (l : List Ht) : Prop := W.heap[g]? = some (.cells (fl (l ++ [mk])).toArray 26 (0, 0))
theorem LH.lt {W : World} {g : Nat} {l : List Ht} (h : LH W g l) : g < W.heap.size := (Array.getElem?_eq_some_iff.1 h).1
theorem LH.block {W W' : World} {g : Nat} {l : List Ht} (h : LH W g l) (k : W'.heap[g]? = W.heap[g]?) : LH W' g l := k.trans h
theorem LH.cellAt {W : World} {g : Nat} {l : List Ht} (h : LH W g l) {i c : Nat} (hi : i < l.length + 1) (hc : c < 3) : W.cell? ⟨g, i * 3 + c, none⟩ = (enc ((l ++ [mk])[i]'(by simp; omega)))[c]? := by
  have := fl_get (l ++ [mk]) i c (by simp; omega) hc
  simp only [World.cell?, show W.heap[g]? = _ from h]
  simpa using this
theorem LH.own {W : World} {g : Nat} {l : List Ht} (h : LH W g l) (hl : l.length ≤ 4000) : Own W (lvv g l) l.toArray := by
  have hs : (fl (l ++ [mk])).toArray.size = (l.length + 1) * 3 := by simp [fl_len]
  refine ⟨by simp [fl_len], .inr ⟨g, l.length + 1, _, by simp, Nat.zero_le _, h, by simp, by simp only [maxLen]; omega, hs, ?_⟩⟩
  rw [fl_app]
  simp [fl_len]
theorem LH.rd {W : World} {g : Nat} {l : List Ht} (h : LH W g l) (hl : l.length ≤ 4000) : Rd W (lvv g l) l := by
  have := own_rd (h.own hl); simpa using this
theorem LH.mark {W : World} {g : Nat} {l : List Ht} (h : LH W g l) : W.cell? ⟨g, l.length * 3, none⟩ = some (.int .i64 (-7)) ∧ W.cell? ⟨g, l.length * 3 + 1, none⟩ = some (.int .u64 0) ∧ W.cell? ⟨g, l.length * 3 + 2, none⟩ = some (.int .u64 7) := by
  refine ⟨?_, ?_, ?_⟩
  · have := h.cellAt (i := l.length) (c := 0) (by omega) (by omega); simpa [enc] using this
  · have := h.cellAt (i := l.length) (c := 1) (by omega) (by omega); simpa [enc] using this
  · have := h.cellAt (i := l.length) (c := 2) (by omega) (by omega); simpa [enc] using this
theorem lh_put {W : World} {g : Nat} {l : List Ht} {r0 r1 r2 : Value} (h : W.heap[g]? = some (.cells (fl l ++ [r0, r1, r2]).toArray 26 (0, 0))) :
    LH (((W.setCell ⟨g, l.length * 3, none⟩ (.int .i64 (-7))).setCell ⟨g, l.length * 3 + 1, none⟩ (.int .u64 0)).setCell ⟨g, l.length * 3 + 2, none⟩ (.int .u64 7)) g l := by
  have e : (fl l).length = l.length * 3 := fl_len l
  unfold LH
  simp only [World.setCell, Array.getElem?_modify, if_true, h, Option.map_some]
  have hA : (((fl l ++ [r0, r1, r2]).toArray.setIfInBounds (l.length * 3) (.int .i64 (-7))).setIfInBounds (l.length * 3 + 1) (.int .u64 0)).setIfInBounds (l.length * 3 + 2) (.int .u64 7) = (fl (l ++ [mk])).toArray := by
    rw [fl_app]
    simp only [List.setIfInBounds_toArray, ← e]
    congr 1
    rw [List.set_append_right _ _ (by omega), List.set_append_right _ _ (by omega), List.set_append_right _ _ (by omega)]
    simp [fl, enc]
  simpa using hA

/-- What loop 1 has laid out: the first q lists, each with the mark; all of them in one. -/
structure Ow (w W : World) (ls : List (List Ht)) (p q : Nat) (gs : Nat → Nat) (vo va : Value) : Prop where
  row : W.ownsRow w.heap.size 30 1 vo q ((List.range q).map fun i => lvv (gs i) ls[i]!)
  all : W.ownsRow w.heap.size 26 3 va (tot (ls.take q)) (fl (ls.take q).flatten)
  lh : ∀ i, p ≤ i → i < q → LH W (gs i) ls[i]!
  ge : ∀ i, i < q → w.heap.size ≤ gs i ∧ gs i < W.heap.size
  inj : ∀ i j, i < j → j < q → gs i < gs j
  na : ∀ i, i < q → va.ownBlock ≠ some (gs i)
  no : ∀ i, i < q → vo.ownBlock ≠ some (gs i)
  ne : ∀ g, vo.ownBlock = some g → va.ownBlock ≠ some g
  gb : Gr w W
theorem row_kept {W W' : World} {e s n base : Nat} {v : Value} {xs : List Value} (h : W.ownsRow base e s v n xs) (g : W.grownBy W' none) : W'.ownsRow base e s v n xs :=
  h.kept g (by cases hv : v.ownBlock <;> simp)
theorem Ow.gr {w W W' : World} {ls : List (List Ht)} {p q : Nat} {gs : Nat → Nat} {vo va : Value} (h : Ow w W ls p q gs vo va) (g : Gr W W') : Ow w W' ls p q gs vo va := by
  have g' : W.grownBy W' none := ⟨g.os, g.tape, g.output, g.size, fun k hk _ => g.block k hk⟩
  exact ⟨row_kept h.row g', row_kept h.all g', fun i h1 h2 => (h.lh i h1 h2).block (g.block _ (h.ge i h2).2), fun i hi => ⟨(h.ge i hi).1, Nat.lt_of_lt_of_le (h.ge i hi).2 g.size⟩, h.inj, h.na, h.no, h.ne, gr_trans h.gb g⟩
theorem ow_nil (w : World) (ls : List (List Ht)) : Ow w w ls 0 0 (fun _ => 0) (.slice none 0 0) (.slice none 0 0) :=
  ⟨World.ownsRow_nil _ _ _ _, by simpa [tot, fl] using World.ownsRow_nil w w.heap.size 26 3, fun i _ h => by omega, fun i h => by omega, fun i j _ h => by omega, fun i h => by omega, fun i h => by omega, fun g h => (by cases h), Below.refl _ _⟩
/-- One more list. -/
theorem Ow.next {w wr W4 W5 W6 : World} {ls : List (List Ht)} {q : Nat} {gs : Nat → Nat} {vo va vo' va' : Value} {tmp : Obj} (h : Ow w wr ls 0 q gs vo va) (g4 : Gr wr W4) (h4 : LH W4 wr.heap.size ls[q]!)
    (r5 : W5.ownsRow w.heap.size 30 1 vo' (q + 1) (((List.range q).map fun i => lvv (gs i) ls[i]!) ++ [lvv wr.heap.size ls[q]!])) (g5 : (W4.alloc tmp).grownBy W5 vo.ownBlock) (l5 : vo'.ownBlock = vo.ownBlock ∨ vo'.ownBlock = some (W4.alloc tmp).heap.size)
    (r6 : W6.ownsRow w.heap.size 26 3 va' (tot (ls.take (q + 1))) (fl (ls.take (q + 1)).flatten)) (g6 : W5.grownBy W6 va.ownBlock) (l6 : va'.ownBlock = va.ownBlock ∨ va'.ownBlock = some W5.heap.size) :
    Ow w W6 ls 0 (q + 1) (fun i => if i = q then wr.heap.size else gs i) vo' va' := by
  have hM := h4.lt
  have s5 := g5.size
  have s6 := g6.size
  rw [World.size_alloc] at s5 l5
  have hvo : ∀ g, vo.ownBlock = some g → g < wr.heap.size := fun g e => (h.row.lt g e).2
  have hva : ∀ g, va.ownBlock = some g → g < wr.heap.size := fun g e => (h.all.lt g e).2
  have keep4 : ∀ k, k < W4.heap.size → (W4.alloc tmp).heap[k]? = W4.heap[k]? := fun k hk => Below.heap_alloc W4 tmp k hk
  have keep5 : ∀ k, k < W4.heap.size → vo.ownBlock ≠ some k → W5.heap[k]? = W4.heap[k]? := fun k hk hn => (g5.block k (by simp; omega) (fun e => hn e.symm)).trans (keep4 k hk)
  have keep6 : ∀ k, k < W4.heap.size → vo.ownBlock ≠ some k → va.ownBlock ≠ some k → W6.heap[k]? = W4.heap[k]? := fun k hk hn hn2 => (g6.block k (by omega) (fun e => hn2 e.symm)).trans (keep5 k hk hn)
  refine ⟨?_, r6, fun i _ hi => ?_, fun i hi => ?_, fun i j hij hj => ?_, fun i hi => ?_, fun i hi => ?_, fun g hg => ?_, ?_⟩
  · have e : ((List.range (q + 1)).map fun i => lvv (if i = q then wr.heap.size else gs i) ls[i]!) = ((List.range q).map fun i => lvv (gs i) ls[i]!) ++ [lvv wr.heap.size ls[q]!] := by
      rw [List.range_succ, List.map_append]
      congr 1
      · apply List.map_congr_left
        intro i hi
        have : i < q := List.mem_range.1 hi
        rw [if_neg (by omega)]
      · simp
    rw [e]
    refine r5.kept g6 ?_
    rcases l5 with l5 | l5
    · rw [l5]
      cases hv : vo.ownBlock with
      | none => exact .inl rfl
      | some g => exact .inr (fun e => h.ne g hv e.symm)
    · rw [l5]
      exact .inr (fun e => by have := hva _ e.symm; have := g4.size; omega)
  · by_cases e : i = q
    · subst e
      simp only [if_true]
      exact h4.block (keep6 _ hM (fun e => by have := hvo _ e; omega) (fun e => by have := hva _ e; omega))
    · rw [if_neg e]
      have hi' : i < q := by omega
      have hl := (h.ge i hi').2
      have := g4.size
      exact ((h.lh i (Nat.zero_le _) hi').block (g4.block _ hl)).block (keep6 _ (by omega) (h.no i hi') (h.na i hi'))
  · by_cases e : i = q
    · rw [if_pos e]; exact ⟨h.gb.size, by omega⟩
    · rw [if_neg e]; have := h.ge i (by omega); have := g4.size; omega
  · by_cases e : j = q
    · rw [if_neg (by omega), if_pos e]; exact (h.ge i (by omega)).2
    · rw [if_neg (by omega), if_neg e]; exact h.inj i j hij (by omega)
  · have hlt : (if i = q then wr.heap.size else gs i) < W5.heap.size := by
      by_cases e : i = q
      · rw [if_pos e]; omega
      · rw [if_neg e]; have := (h.ge i (by omega)).2; have := g4.size; omega
    rcases l6 with l6 | l6
    · rw [l6]
      by_cases e : i = q
      · rw [if_pos e]; exact fun e => by have := hva _ e; omega
      · rw [if_neg e]; exact h.na i (by omega)
    · rw [l6]; intro e; injection e; omega
  · have hlt : (if i = q then wr.heap.size else gs i) < W4.heap.size := by
      by_cases e : i = q
      · rw [if_pos e]; omega
      · rw [if_neg e]; have := (h.ge i (by omega)).2; have := g4.size; omega
    rcases l5 with l5 | l5
    · rw [l5]
      by_cases e : i = q
      · rw [if_pos e]; exact fun e => by have := hvo _ e; omega
      · rw [if_neg e]; exact h.no i (by omega)
    · rw [l5]; intro e; injection e; omega
  · have hg5 : g < W5.heap.size := (r5.lt g hg).2
    rcases l6 with l6 | l6
    · rw [l6]
      rcases l5 with l5 | l5
      · rw [l5] at hg; exact h.ne g hg
      · rw [l5] at hg; injection hg with hg; exact fun e => by have := hva _ e; have := g4.size; omega
    · rw [l6]; intro e; injection e; omega
  · have b4 := gr_trans h.gb g4
    have b5 : Gr w W5 := (gr_alloc b4 tmp).grown g5 (by have := b4.size; simp; omega) (fun k e => (h.row.lt k e).1)
    exact b5.grown g6 b5.size (fun k e => (h.all.lt k e).1)
/-- All lists as the law hands them on. -/
theorem Ow.rdl {w W : World} {ls : List (List Ht)} {gs : Nat → Nat} {vo va : Value} (h : Ow w W ls 0 ls.length gs vo va) (hl : ∀ i, i < ls.length → ls[i]!.length ≤ 4000) : RdL W vo ls := by
  obtain ⟨_, hr⟩ := h.row
  rcases hr with ⟨rfl, h0⟩ | ⟨g, cap, cur, rfl, r⟩
  · exact ⟨none, 0, by rw [h0], fun i hi => by omega⟩
  · refine ⟨_, cap, rfl, fun i hi => ⟨g, 0, lvv (gs i) ls[i]!, rfl, ?_, (h.lh i (Nat.zero_le _) hi).rd (hl i hi)⟩⟩
    have := h.row.cells (g := g) rfl i (lvv (gs i) ls[i]!) (by simp [hi])
    rwa [Addr.add_lit] at this

end Go.Proofs.Ytfefojgncemohaa
