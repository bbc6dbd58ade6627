/- What flat answers, plainly: the hits of rows, their errors, the first k. -/
import Derived.Test.YteaeaoekaoedoaaGreatBox
import Derived.Test.YteaeaoekaoedoaaGreatG17
namespace Go.Proofs.YteaeaoekaoedoaaGreat
open Go.RowKit Go.Sort

/-- A row's hit for q; all rows'. -/
abbrev hitOf (q : List Int) (r : Rw) : Tk.Ht := (r.1, hi (dst q r.2), lo (dst q r.2))
def hitsOf (q : List Int) (rs : List Rw) : List Tk.Ht := rs.map (hitOf q)
/-- What flat.Check answers; checkAll; begin; Search. -/
def flatE (rs : List Rw) (d : Int) : Int := if 1 ≤ d ∧ d ≤ 64 then idsE rs d else 30
def askE (rs : List Rw) (q : List Int) : Int := if chk q (q.length : Int) = 0 then flatE rs (q.length : Int) else chk q (q.length : Int)
def topE (rs : List Rw) (q : List Int) (k : Int) : Int := if askE rs q = 0 then (if 1 ≤ k ∧ k ≤ 64 then 0 else 1) else askE rs q

theorem chk_is (l : List Int) (d : Int) : chk l d = 0 ∨ chk l d = 30 ∨ chk l d = 31 := by
  unfold chk vErr; (repeat' split) <;> simp
theorem rowE_is (rs : List Rw) (d : Int) (i : Nat) : rowE rs d i = 0 ∨ rowE rs d i = 30 ∨ rowE rs d i = 31 ∨ rowE rs d i = 50 := by
  unfold rowE
  split
  · rcases chk_is rs[i]!.2 d with h | h | h
    · exact .inl h
    · exact .inr (.inl h)
    · exact .inr (.inr (.inl h))
  · exact .inr (.inr (.inr rfl))
theorem rowsTo_is (rs : List Rw) (d : Int) : ∀ q, rowsTo rs d q = 0 ∨ rowsTo rs d q = 30 ∨ rowsTo rs d q = 31 ∨ rowsTo rs d q = 50
  | 0 => .inl rfl
  | q + 1 => by
    rw [rowsTo]
    split
    · exact rowE_is rs d q
    · exact rowsTo_is rs d q
theorem idsE_ne (rs : List Rw) (d : Int) : idsE rs d ≠ 1 := by
  unfold idsE
  split
  · rcases rowsTo_is rs d rs.length with h | h | h | h <;> rw [h] <;> decide
  · decide
theorem idsE_nil (d : Int) : idsE [] d = 0 := rfl
theorem flatE_box (rs : List Rw) (d : Int) : flatE rs d = if boxE rs d = 1 then 0 else boxE rs d := by
  unfold flatE boxE
  by_cases h : 1 ≤ d ∧ d ≤ 64
  · rw [if_pos h, if_pos h]
    by_cases h0 : rs.length = 0
    · obtain rfl := List.length_eq_zero_iff.1 h0
      rw [if_pos h0]; simp [idsE_nil]
    · rw [if_neg h0, if_neg (idsE_ne rs d)]
  · rw [if_neg h, if_neg h]; decide

theorem rowsTo_zero {rs : List Rw} {d : Int} : ∀ q, rowsTo rs d q = 0 ↔ ∀ i, i < q → rowE rs d i = 0
  | 0 => ⟨fun _ i hi => absurd hi (Nat.not_lt_zero _), fun _ => rfl⟩
  | q + 1 => by
    rw [rowsTo]
    constructor
    · intro h
      split at h
      · rename_i h0
        intro i hi
        by_cases e : i = q
        · subst e; exact h
        · exact (rowsTo_zero q).1 h0 i (by omega)
      · rename_i h0; exact absurd h h0
    · intro h
      rw [if_pos ((rowsTo_zero q).2 fun i hi => h i (by omega))]
      exact h q (by omega)
/-- Rows that may be. -/
structure RowsOk (rs : List Rw) (d : Int) : Prop where
  few : rs.length ≤ 512
  ids : (idsOf rs).Pairwise (· ≠ ·)
  row : ∀ r ∈ rs, okId r.1 = true ∧ chk r.2 d = 0
theorem rowE_zero {rs : List Rw} {d : Int} {i : Nat} : rowE rs d i = 0 ↔ ((idsOf rs).take i).contains rs[i]!.1 = false ∧ okId rs[i]!.1 = true ∧ chk rs[i]!.2 d = 0 := by
  unfold rowE
  split
  · rename_i h; exact ⟨fun e => ⟨h.1, h.2, e⟩, fun e => e.2.2⟩
  · rename_i h; exact ⟨fun e => by simp at e, fun e => absurd ⟨e.1, e.2.1⟩ h⟩
theorem ids_get {rs : List Rw} {i : Nat} (hi : i < rs.length) : (idsOf rs)[i]'(by simpa [idsOf] using hi) = rs[i]!.1 := by
  rw [getElem!_pos rs i hi]; simp [idsOf]
theorem idsE_zero {rs : List Rw} {d : Int} : idsE rs d = 0 ↔ RowsOk rs d := by
  unfold idsE
  constructor
  · intro h
    split at h
    · rename_i hn
      have h1 := (rowsTo_zero _).1 h
      refine ⟨hn, ?_, fun r hr => ?_⟩
      · rw [List.pairwise_iff_getElem]
        intro i j hi hj hij e
        have hi' : i < rs.length := by simpa [idsOf] using hi
        have hj' : j < rs.length := by simpa [idsOf] using hj
        have h2 := (rowE_zero.1 (h1 j hj')).1
        rw [← ids_get hj', ← e] at h2
        have : ((idsOf rs).take j).contains (idsOf rs)[i] = true := by
          rw [List.contains_iff_mem]
          exact List.mem_iff_getElem.2 ⟨i, by simp [idsOf]; omega, by simp⟩
        rw [this] at h2; cases h2
      · obtain ⟨i, hi, rfl⟩ := List.mem_iff_getElem.1 hr
        have h2 := rowE_zero.1 (h1 i hi)
        rw [getElem!_pos rs i hi] at h2
        exact h2.2
    · cases h
  · rintro ⟨h1, h2, h3⟩
    rw [if_pos h1, rowsTo_zero]
    intro i hi
    have h4 := h3 rs[i] (List.getElem_mem hi)
    rw [rowE_zero, getElem!_pos rs i hi]
    refine ⟨?_, h4⟩
    rw [← Bool.not_eq_true, List.contains_iff_mem]
    intro hm
    obtain ⟨j, hj, e⟩ := List.mem_iff_getElem.1 hm
    have hji : j < i := by have := hj; simp at this; omega
    have := List.pairwise_iff_getElem.1 h2 j i (by simp [idsOf]; omega) (by simp [idsOf]; omega) hji
    apply this
    rw [List.getElem_take] at e
    rw [e, ids_get hi, getElem!_pos rs i hi]
theorem RowsOk.perm {rs rs' : List Rw} {d : Int} (h : RowsOk rs d) (p : rs.Perm rs') : RowsOk rs' d :=
  ⟨by rw [← p.length_eq]; exact h.few, (List.Perm.pairwise_iff (fun h => Ne.symm h) (p.map _)).1 h.ids, fun r hr => h.row r (p.mem_iff.2 hr)⟩
theorem RowsOk.sub {rs rs' : List Rw} {d : Int} (h : RowsOk rs d) (p : rs'.Sublist rs) : RowsOk rs' d :=
  ⟨Nat.le_trans p.length_le h.few, h.ids.sublist (p.map _), fun r hr => h.row r (p.subset hr)⟩
theorem flatE_zero {rs : List Rw} {d : Int} : flatE rs d = 0 ↔ (1 ≤ d ∧ d ≤ 64) ∧ RowsOk rs d := by
  unfold flatE
  split
  · rename_i h; rw [idsE_zero]; exact ⟨fun e => ⟨h, e⟩, fun e => e.2⟩
  · rename_i h; exact ⟨fun e => by simp at e, fun e => absurd e.1 h⟩
theorem askE_zero {rs : List Rw} {q : List Int} : askE rs q = 0 ↔ chk q (q.length : Int) = 0 ∧ RowsOk rs (q.length : Int) := by
  unfold askE
  split
  · rename_i h
    have := chk_ok h
    rw [flatE_zero]
    exact ⟨fun e => ⟨h, e.2⟩, fun e => ⟨⟨by omega, by omega⟩, e.2⟩⟩
  · rename_i h; exact ⟨fun e => absurd e h, fun e => absurd e.1 h⟩
theorem topE_zero {rs : List Rw} {q : List Int} {k : Int} : topE rs q k = 0 ↔ askE rs q = 0 ∧ 1 ≤ k ∧ k ≤ 64 := by
  unfold topE
  split
  · rename_i h
    split
    · rename_i h1; simp [h, h1]
    · rename_i h1; simp [h]; omega
  · rename_i h; exact ⟨fun e => absurd e h, fun e => absurd e.1 h⟩
theorem row_dist {rs : List Rw} {q : List Int} (h : askE rs q = 0) {r : Rw} (hr : r ∈ rs) : distE q r.2 = 0 ∧ distV q r.2 = dst q r.2 := by
  obtain ⟨h1, h2⟩ := askE_zero.1 h
  have e : distE q r.2 = 0 := by unfold distE; rw [if_pos h1]; exact (h2.row r hr).2
  exact ⟨e, by unfold distV; rw [if_pos e]⟩

/-- The order of hits with distances that are numbers. -/
theorem hlt_hit (i j : Int) (m n : Nat) : Tk.hlt (i, hi m, lo m) (j, hi n, lo n) = true ↔ m < n ∨ m = n ∧ i < j := by
  rw [Tk.hlt_iff]
  unfold Tk.Ht.hi Tk.Ht.lo Tk.Ht.id hi lo
  dsimp only
  omega
theorem wd_one {m n : Nat} (h : hi m = hi n) (h' : lo m = lo n) : m = n := by
  unfold hi lo at *; omega
theorem hitsOf_len (q : List Int) (rs : List Rw) : (hitsOf q rs).length = rs.length := by simp [hitsOf]
theorem hitsOf_perm (q : List Int) {rs rs' : List Rw} (p : rs.Perm rs') : (hitsOf q rs).Perm (hitsOf q rs') := p.map _
theorem hitsOf_app (q : List Int) (a b : List Rw) : hitsOf q (a ++ b) = hitsOf q a ++ hitsOf q b := by simp [hitsOf]
theorem hitsOf_snoc (q : List Int) {rs : List Rw} {i : Nat} (hi' : i < rs.length) : hitsOf q (rs.take (i + 1)) = hitsOf q (rs.take i) ++ [hitOf q rs[i]!] := by
  rw [List.take_succ_eq_append_getElem hi', hitsOf_app, getElem!_pos rs i hi']; rfl
theorem hits_ids (q : List Int) (rs : List Rw) : (hitsOf q rs).map (·.1) = idsOf rs := by simp [hitsOf, idsOf]
theorem first_more (k : Nat) (l : List Tk.Ht) : Tk.firsts k l = (Tk.firsts (k + 1) l).take k := by
  unfold Tk.firsts; rw [List.take_take, Nat.min_eq_left (Nat.le_succ k)]

/-- The first k of two parts' first k. -/
theorem firsts_fold (k : Nat) (l m : List Tk.Ht) : Tk.firsts k (l ++ m) = Tk.firsts k (Tk.firsts k l ++ m) := by
  obtain ⟨r, hr⟩ : ∃ r, m = r.reverse := ⟨m.reverse, by simp⟩
  subst hr
  induction r with
  | nil =>
    rw [List.reverse_nil, List.append_nil, List.append_nil]
    unfold Tk.firsts
    rw [Tk.srt_of_srtd ((Tk.srt_srtd l).sublist (List.take_sublist k _)), List.take_take, Nat.min_self]
  | cons x r ih => rw [List.reverse_cons, ← List.append_assoc, Tk.firsts_snoc, ih, ← List.append_assoc, Tk.firsts_snoc]
theorem firsts_parts (k : Nat) (l m : List Tk.Ht) : Tk.firsts k (Tk.firsts k l ++ Tk.firsts k m) = Tk.firsts k (l ++ m) := by
  rw [← firsts_fold, Tk.firsts_perm k (List.perm_append_comm), ← firsts_fold, Tk.firsts_perm k (List.perm_append_comm)]
end Go.Proofs.YteaeaoekaoedoaaGreat
