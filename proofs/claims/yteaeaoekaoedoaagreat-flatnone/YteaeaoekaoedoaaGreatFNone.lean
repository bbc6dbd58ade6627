/- FlatNone: the walk. -/
import Derived.Test.YteaeaoekaoedoaaGreatFAwake
import Derived.Test.YteaeaoekaoedoaaGreatFBig
import Derived.Test.YteaeaoekaoedoaaGreatBack
namespace Go.Proofs.YteaeaoekaoedoaaGreat
open Go.RowKit Go.Sort

/-- What the law asks of the hits that are told. -/
theorem firsts_sub (k : Nat) (l : List Tk.Ht) : ∀ x ∈ Tk.firsts k l, x ∈ l := fun _ hx => (Tk.srt_perm l).subset ((List.take_sublist k _).subset hx)
theorem ids_inj {rs : List Rw} (h : (idsOf rs).Pairwise (· ≠ ·)) {a b : Rw} (ha : a ∈ rs) (hb : b ∈ rs) (e : a.1 = b.1) : a = b := by
  obtain ⟨i, hi, rfl⟩ := List.mem_iff_getElem.1 ha
  obtain ⟨j, hj, rfl⟩ := List.mem_iff_getElem.1 hb
  have hi' : i < (idsOf rs).length := by simpa [idsOf] using hi
  have hj' : j < (idsOf rs).length := by simpa [idsOf] using hj
  have gi : (idsOf rs)[i] = rs[i].1 := by simp [idsOf]
  have gj : (idsOf rs)[j] = rs[j].1 := by simp [idsOf]
  rcases Nat.lt_trichotomy i j with hij | rfl | hij
  · exact absurd (by rw [gi, gj]; exact e) (List.pairwise_iff_getElem.1 h i j hi' hj' hij)
  · rfl
  · exact absurd (by rw [gi, gj]; exact e.symm) (List.pairwise_iff_getElem.1 h j i hj' hi' hij)
/-- A hit that is told with a row's id is the row's hit. -/
theorem told_is {rs : List Rw} {q : List Int} {k : Nat} (h : (idsOf rs).Pairwise (· ≠ ·)) {x : Tk.Ht} (hx : x ∈ Tk.firsts k (hitsOf q rs)) {r : Rw} (hr : r ∈ rs) (e : x.1 = r.1) : x = hitOf q r := by
  have := firsts_sub k _ x hx
  obtain ⟨r', hr', rfl⟩ := List.mem_map.1 this
  rw [ids_inj h hr' hr e]
theorem told_ids {rs : List Rw} {q : List Int} {k : Nat} (h : (idsOf rs).Pairwise (· ≠ ·)) : ((Tk.firsts k (hitsOf q rs)).map (·.1)).Pairwise (· ≠ ·) := by
  have h1 : ((Tk.srt (hitsOf q rs)).map (·.1)).Pairwise (· ≠ ·) := (List.Perm.pairwise_iff (fun h => Ne.symm h) ((Tk.srt_perm _).map _)).2 (by rw [hits_ids]; exact h)
  exact h1.sublist ((List.take_sublist k _).map _)
/-- How often an id stands among the first n. -/
def cnt (l : List Tk.Ht) (i : Int) (n : Nat) : Nat := ((l.take n).filter fun x => x.1 == i).length
theorem cnt_zero (l : List Tk.Ht) (i : Int) : cnt l i 0 = 0 := rfl
theorem cnt_succ {l : List Tk.Ht} (i : Int) {n : Nat} (h : n < l.length) : cnt l i (n + 1) = cnt l i n + if l[n]!.1 == i then 1 else 0 := by
  unfold cnt
  rw [List.take_succ_eq_append_getElem h, List.filter_append, List.length_append, getElem!_pos l n h]
  congr 1
  simp only [List.filter_cons, List.filter_nil]
  split <;> rfl
theorem cnt_le (l : List Tk.Ht) (i : Int) (n : Nat) (h : (l.map (·.1)).Pairwise (· ≠ ·)) : cnt l i n ≤ 1 := by
  unfold cnt
  have h1 : ((l.take n).map (·.1)).Pairwise (· ≠ ·) := h.sublist ((List.take_sublist n l).map _)
  generalize l.take n = m at h1
  induction m with
  | nil => exact Nat.zero_le _
  | cons a r ih =>
    simp only [List.map_cons, List.pairwise_cons] at h1
    simp only [List.filter_cons]
    split
    · rename_i e
      have : r.filter (fun x => x.1 == i) = [] := by
        rw [List.filter_eq_nil_iff]
        intro x hx e2
        exact h1.1 x.1 (List.mem_map_of_mem hx) (by rw [beq_iff_eq] at e e2; omega)
      rw [this]
      exact Nat.le_refl _
    · exact ih h1.2
theorem cnt_none {l : List Tk.Ht} {i : Int} (h : cnt l i l.length = 0) : ∀ x ∈ l, x.1 ≠ i := by
  unfold cnt at h
  rw [List.take_length] at h
  have := List.length_eq_zero_iff.1 h
  rw [List.filter_eq_nil_iff] at this
  intro x hx e
  exact this x hx (by rw [e]; simp)
/-- One that is not told is not ahead of the last that is. -/
theorem last_told {rs : List Rw} {q : List Int} {k : Nat} {r : Rw} (hr : r ∈ rs) (hn : ∀ x ∈ Tk.firsts k (hitsOf q rs), x.1 ≠ r.1) (h0 : 0 < (Tk.firsts k (hitsOf q rs)).length) :
    Tk.hlt (hitOf q r) (Tk.firsts k (hitsOf q rs))[(Tk.firsts k (hitsOf q rs)).length - 1]! = false := by
  have hm : hitOf q r ∈ Tk.srt (hitsOf q rs) := (Tk.srt_perm _).symm.subset (List.mem_map_of_mem hr)
  have hs := Tk.srt_srtd (hitsOf q rs)
  obtain ⟨j, hj, e⟩ := List.mem_iff_getElem.1 hm
  have hl : (Tk.firsts k (hitsOf q rs)).length = min k (Tk.srt (hitsOf q rs)).length := by unfold Tk.firsts; rw [List.length_take]
  rw [getElem!_pos _ _ (by omega)]
  have hjk : k ≤ j := by
    rcases Nat.lt_or_ge j k with hjk | hjk
    · exfalso
      refine hn (hitOf q r) ?_ rfl
      rw [← e]
      exact List.mem_iff_getElem.2 ⟨j, by unfold Tk.firsts; rw [List.length_take]; omega, by unfold Tk.firsts; simp⟩
    · exact hjk
  have key := List.pairwise_iff_getElem.1 hs ((Tk.firsts k (hitsOf q rs)).length - 1) j (by omega) hj (by omega)
  rw [← e]
  have e2 : (Tk.firsts k (hitsOf q rs))[(Tk.firsts k (hitsOf q rs)).length - 1]'(by omega) = (Tk.srt (hitsOf q rs))[(Tk.firsts k (hitsOf q rs)).length - 1]'(by omega) := by
    simp only [Tk.firsts, List.getElem_take]
  rw [e2]
  exact key
theorem told_rise {rs : List Rw} {q : List Int} {k : Nat} (h : (idsOf rs).Pairwise (· ≠ ·)) {n : Nat} (hn : n + 1 < (Tk.firsts k (hitsOf q rs)).length) :
    Tk.hlt (Tk.firsts k (hitsOf q rs))[n]! (Tk.firsts k (hitsOf q rs))[n + 1]! = true := by
  have hs := Tk.firsts_srtd k (hitsOf q rs)
  have h1 := List.pairwise_iff_getElem.1 hs n (n + 1) (by omega) hn (by omega)
  have h2 := List.pairwise_iff_getElem.1 (told_ids (q := q) (k := k) h) n (n + 1) (by simp; omega) (by simp; omega) (by omega)
  rw [getElem!_pos _ n (by omega), getElem!_pos _ (n + 1) hn]
  cases hc : Tk.hlt (Tk.firsts k (hitsOf q rs))[n] (Tk.firsts k (hitsOf q rs))[n + 1] with
  | true => rfl
  | false => exact absurd (by rw [List.getElem_map, List.getElem_map, Tk.hlt_tot hc h1]) h2
/-- Each that is told is some row's hit. -/
theorem told_row {rs : List Rw} {q : List Int} {k : Nat} {n : Nat} (hn : n < (Tk.firsts k (hitsOf q rs)).length) : ∃ r ∈ rs, (Tk.firsts k (hitsOf q rs))[n]! = hitOf q r := by
  rw [getElem!_pos _ n hn]
  obtain ⟨r, hr, e⟩ := List.mem_map.1 (firsts_sub k _ _ (List.getElem_mem hn))
  exact ⟨r, hr, e.symm⟩
end Go.Proofs.YteaeaoekaoedoaaGreat
