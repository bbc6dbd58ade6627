import Derived.Test.YtbnljabeccebiaaGreatKr11
import Derived.Test.YtbnljabeccebiaaGreatKr10
import Derived.Test.YtbnljabeccebiaaGreatKr8
/- vec.Ball. -/
namespace Go.Proofs.YtbnljabeccebiaaGreat
open Go.RowKit Go.Sort Go.Maps

end Go.Proofs.YtbnljabeccebiaaGreat

/- What VecHolds asks of boxes and balls. -/
namespace Go.Proofs.YtbnljabeccebiaaGreat
open Go.RowKit Go.Sort

theorem mnN_le (f : Nat → Int) (x : Int) : ∀ k j, j < k → mnN f x k ≤ f j
  | k + 1, j, h => by
    simp only [mnN]
    by_cases e : j = k
    · subst e; omega
    · have := mnN_le f x k j (by omega); omega
theorem mxN_ge (f : Nat → Int) (x : Int) : ∀ k j, j < k → f j ≤ mxN f x k
  | k + 1, j, h => by
    simp only [mxN]
    by_cases e : j = k
    · subst e; omega
    · have := mxN_ge f x k j (by omega); omega
theorem mnN_is (f : Nat → Int) (x : Int) : ∀ k, mnN f x k = x ∨ ∃ j, j < k ∧ mnN f x k = f j
  | 0 => .inl rfl
  | k + 1 => by
    simp only [mnN]
    rcases Int.le_total (mnN f x k) (f k) with h | h
    · rw [Int.min_eq_left h]
      rcases mnN_is f x k with e | ⟨j, hj, e⟩
      · exact .inl e
      · exact .inr ⟨j, by omega, e⟩
    · rw [Int.min_eq_right h]; exact .inr ⟨k, by omega, rfl⟩
theorem mxN_is (f : Nat → Int) (x : Int) : ∀ k, mxN f x k = x ∨ ∃ j, j < k ∧ mxN f x k = f j
  | 0 => .inl rfl
  | k + 1 => by
    simp only [mxN]
    rcases Int.le_total (mxN f x k) (f k) with h | h
    · rw [Int.max_eq_right h]; exact .inr ⟨k, by omega, rfl⟩
    · rw [Int.max_eq_left h]
      rcases mxN_is f x k with e | ⟨j, hj, e⟩
      · exact .inl e
      · exact .inr ⟨j, by omega, e⟩
theorem lo_is {rs : List Rw} (h : 1 ≤ rs.length) (i : Nat) : ∃ j, j < rs.length ∧ loAt rs rs.length i = rs[j]!.2[i]! := by
  rcases mnN_is (fun j => rs[j]!.2[i]!) rs[0]!.2[i]! rs.length with e | ⟨j, hj, e⟩
  · exact ⟨0, h, e⟩
  · exact ⟨j, hj, e⟩
theorem hi_is {rs : List Rw} (h : 1 ≤ rs.length) (i : Nat) : ∃ j, j < rs.length ∧ hiAt rs rs.length i = rs[j]!.2[i]! := by
  rcases mxN_is (fun j => rs[j]!.2[i]!) rs[0]!.2[i]! rs.length with e | ⟨j, hj, e⟩
  · exact ⟨0, h, e⟩
  · exact ⟨j, hj, e⟩
theorem lo_le {rs : List Rw} {j : Nat} (hj : j < rs.length) (i : Nat) : loAt rs rs.length i ≤ rs[j]!.2[i]! := mnN_le (fun j => rs[j]!.2[i]!) _ _ j hj
theorem hi_ge {rs : List Rw} {j : Nat} (hj : j < rs.length) (i : Nat) : rs[j]!.2[i]! ≤ hiAt rs rs.length i := mxN_ge (fun j => rs[j]!.2[i]!) _ _ j hj

theorem riseTo_of {l : List Int} : ∀ q, q ≤ l.length → (∀ i, i < l.length → okId l[i]! = true) → (∀ i, i + 1 < l.length → l[i]! < l[i + 1]!) → riseTo l q = true
  | 0, _, _, _ => rfl
  | q + 1, hq, h1, h2 => by
    simp only [riseTo, okAt]
    rw [riseTo_of q (by omega) h1 h2, h1 q (by omega)]
    cases q with
    | zero => rfl
    | succ p => rw [Nat.add_sub_cancel, decide_eq_true (h2 p (by omega))]; simp
theorem ids_nodup {rs : List Rw} (h : ∀ i, i < rs.length → ((idsOf rs).take i).contains rs[i]!.1 = false) : (idsOf rs).Pairwise (· ≠ ·) := by
  rw [List.pairwise_iff_getElem]
  intro i j hi hj hij e
  have hl : (idsOf rs).length = rs.length := by simp [idsOf]
  have h1 := h j (by omega)
  rw [List.contains_eq_mem, decide_eq_false_iff_not] at h1
  apply h1
  have e2 : rs[j]!.1 = (idsOf rs)[j] := by rw [getElem!_pos rs j (by omega)]; simp [idsOf]
  rw [e2, ← e]
  exact List.mem_take_iff_getElem.2 ⟨i, by omega, rfl⟩
theorem srt_rise {rs : List Rw} (h : ∀ i, i < rs.length → okId rs[i]!.1 = true ∧ ((idsOf rs).take i).contains rs[i]!.1 = false) : rise (srt (idsOf rs)) = true := by
  have hp : (srt (idsOf rs)).Perm (idsOf rs) := List.mergeSort_perm _ _
  have hs : (srt (idsOf rs)).Pairwise (fun x y => decide (x ≤ y) = true) := List.pairwise_mergeSort (by intro a b c h1 h2; simp at *; omega) (by intro a b; simp; omega) _
  have hn : (srt (idsOf rs)).Pairwise (· ≠ ·) := (hp.symm.pairwise_iff (fun h => Ne.symm h)).1 (ids_nodup fun i hi => (h i hi).2)
  refine riseTo_of _ (Nat.le_refl _) ?_ ?_
  · intro i hi
    have hm : (srt (idsOf rs))[i]! ∈ idsOf rs := by
      rw [getElem!_pos _ i hi]
      exact hp.mem_iff.1 (List.getElem_mem hi)
    obtain ⟨x, hx, e⟩ := List.mem_map.1 hm
    obtain ⟨j, hj, e2⟩ := List.getElem_of_mem hx
    have := (h j hj).1
    rw [getElem!_pos rs j hj, e2, e] at this
    exact this
  · intro i hi
    rw [getElem!_pos _ i (by omega), getElem!_pos _ (i + 1) hi]
    have h1 := List.pairwise_iff_getElem.1 hs i (i + 1) (by omega) hi (by omega)
    have h2 := List.pairwise_iff_getElem.1 hn i (i + 1) (by omega) hi (by omega)
    simp at h1
    omega
theorem allR_tab {f : Nat → Int} {m : Nat} (h : ∀ i, i < m → -2147483647 ≤ f i ∧ f i ≤ 2147483647) : allR (tab f m) = true := by
  unfold allR tab
  rw [List.all_eq_true]
  intro x hx
  obtain ⟨i, hi, e⟩ := List.mem_map.1 hx
  subst e
  exact (inR_iff _).2 (h i (List.mem_range.1 hi))
theorem below_of {l h : List Int} : ∀ q, (∀ i, i < q → l[i]! ≤ h[i]!) → below l h q = true
  | 0, _ => rfl
  | q + 1, k => by simp only [below]; rw [below_of q fun i hi => k i (by omega), decide_eq_true (k q (by omega))]; rfl
theorem chk_yes {l : List Int} {d : Int} (h1 : 1 ≤ d ∧ d ≤ 64 ∧ (l.length : Int) = d) (h2 : allR l = true) : chk l d = 0 := by
  unfold chk vErr; rw [if_pos h1, if_pos h2]
theorem gap_in {l h x : Int} (h1 : l ≤ x) (h2 : x ≤ h) : gap l h x = 0 := by unfold gap; split <;> (try split) <;> omega
theorem sumN_all {f : Nat → Nat} : ∀ {n : Nat}, (∀ i, i < n → f i = 0) → sumN f n = 0
  | 0, _ => rfl
  | n + 1, h => by simp only [sumN]; rw [sumN_all fun i hi => h i (by omega), h n (by omega)]

/-- What the rows of a box are. -/
theorem rows_of {rs : List Rw} {m : Nat} (h : boxE rs (m : Int) = 0) : 1 ≤ m ∧ m ≤ 64 ∧ 1 ≤ rs.length ∧ rise (srt (idsOf rs)) = true ∧ rs.length ≤ 512 ∧ ∀ j, j < rs.length → rs[j]!.2.length = m ∧ allR rs[j]!.2 = true := by
  obtain ⟨d1, d2, d3, d4⟩ := boxE_ok h
  obtain ⟨r1, r2⟩ := idsE_ok d4
  refine ⟨by omega, by omega, d3, srt_rise fun i hi => (r2 i hi).2, r1, fun j hj => ?_⟩
  have := chk_ok (r2 j hj).1
  exact ⟨by omega, this.2.2.2⟩
theorem box_ck {rs : List Rw} {m : Nat} (h : boxE rs (m : Int) = 0) {f : Nat → Int} (hf : ∀ i, i < m → -2147483647 ≤ f i ∧ f i ≤ hiAt rs rs.length i) {j : Nat} (hj : j < rs.length) :
    ckB ⟨2, tab f m, boxH rs m, 0, srt (idsOf rs)⟩ rs[j]!.2 = 0 := by
  obtain ⟨m1, m2, n1, hr, _, hv⟩ := rows_of h
  obtain ⟨v1, v2⟩ := hv j hj
  have hH : ∀ i, i < m → -2147483647 ≤ hiAt rs rs.length i ∧ hiAt rs rs.length i ≤ 2147483647 := by
    intro i hi
    obtain ⟨t, ht, e⟩ := hi_is n1 i
    rw [e]
    obtain ⟨q1, q2⟩ := hv t ht
    exact allR_get q2 (by omega)
  have c1 : chk (tab f m) (m : Int) = 0 := chk_yes ⟨by omega, by omega, by rw [tab_len]⟩ (allR_tab fun i hi => ⟨(hf i hi).1, by have := (hf i hi).2; have := (hH i hi).2; omega⟩)
  have c2 : chk (boxH rs m) (m : Int) = 0 := chk_yes ⟨by omega, by omega, by unfold boxH; rw [tab_len]⟩ (allR_tab hH)
  have c3 : below (tab f m) (boxH rs m) (tab f m).length = true := by
    rw [tab_len]
    refine below_of m fun i hi => ?_
    unfold boxH
    rw [tab_get _ hi, tab_get _ hi]; exact (hf i hi).2
  have e1 : ckR ⟨2, tab f m, boxH rs m, 0, srt (idsOf rs)⟩ (m : Int) = 0 := by
    unfold ckR uses cornE
    rw [if_pos ⟨by omega, by omega⟩]
    simp [hr, c1, c2, c3]
  unfold ckB
  rw [v1, if_pos e1]
  exact chk_yes ⟨by omega, by omega, by omega⟩ v2
theorem box_in {rs : List Rw} {m : Nat} (h : boxE rs (m : Int) = 0) {j : Nat} (hj : j < rs.length) : ckB (boxR rs (m : Int)) rs[j]!.2 = 0 ∧ insV (boxR rs (m : Int)) rs[j]!.2 = true := by
  obtain ⟨m1, m2, n1, hr, _, hv⟩ := rows_of h
  have e : boxR rs (m : Int) = ⟨2, tab (loAt rs rs.length) m, boxH rs m, 0, srt (idsOf rs)⟩ := by unfold boxR; rw [if_pos h]; rfl
  rw [e]
  have c := box_ck h (f := loAt rs rs.length) (fun i hi => by
    obtain ⟨t, ht, e⟩ := lo_is n1 i
    obtain ⟨q1, q2⟩ := hv t ht
    have h1 := allR_get q2 (i := i) (by omega)
    have h2 := hi_ge ht i
    rw [e]; exact ⟨h1.1, h2⟩) hj
  refine ⟨c, ?_⟩
  unfold insV
  rw [c]
  have hb : bx (tab (loAt rs rs.length) m) (boxH rs m) rs[j]!.2 = 0 := by
    unfold bx bxN
    refine sumN_all fun i hi => ?_
    have hi : i < m := by have := (hv j hj).1; omega
    unfold boxH
    rw [tab_get _ hi, tab_get _ hi, gap_in (lo_le hj i) (hi_ge hj i)]
  unfold inV
  generalize rs[j]!.2 = x at hb ⊢
  simp [hb]
end Go.Proofs.YtbnljabeccebiaaGreat

/- Trees of boxes, plainly: parts by the blocks that they lie in; a search of one. -/
namespace Go.Proofs.YtbnljabeccebiaaGreat
open Go.RowKit Go.Sort

/-- A part: its box, its rows (if it is not cut), the border, and where the two lesser parts lie (if it is). -/
structure Pt where
  L : List Int
  H : List Int
  rs : List Rw
  cut : Int × Int × Int
  kids : Option (Nat × Nat)
abbrev pr (p : Pt) : Reg := ⟨2, p.L, p.H, 0, []⟩
/-- The rows of a part, whose lesser parts are at most n deep. -/
def rowsP (T : Nat → Pt) : Nat → Pt → List Rw
  | 0, p => p.rs
  | n + 1, p => match p.kids with
    | none => p.rs
    | some (l, h) => rowsP T n (T l) ++ rowsP T n (T h)
def BoxOk (d : Nat) (p : Pt) (rs : List Rw) : Prop := ckR (pr p) (d : Int) = 0 ∧ ∀ r ∈ rs, chk r.2 (d : Int) = 0 ∧ inV (pr p) r.2 = true
/-- Does a row belong below a border? -/
def isAb (c : Int × Int × Int) (r : Rw) : Bool := decide (r.2[c.1.toNat]! < c.2.1) || (decide (r.2[c.1.toNat]! = c.2.1) && decide (r.1 < c.2.2))
def OkP (T : Nat → Pt) (d : Nat) : Nat → Pt → Prop
  | 0, p => p.kids = none ∧ p.rs ≠ [] ∧ BoxOk d p p.rs
  | n + 1, p => match p.kids with
    | none => p.rs ≠ [] ∧ BoxOk d p p.rs
    | some (l, h) => OkP T d n (T l) ∧ OkP T d n (T h) ∧ BoxOk d p (rowsP T n (T l) ++ rowsP T n (T h)) ∧ (0 ≤ p.cut.1 ∧ p.cut.1 < (d : Int)) ∧
        (∀ r ∈ rowsP T n (T l), isAb p.cut r = true) ∧ ∀ r ∈ rowsP T n (T h), isAb p.cut r = false
/-- How many steps a part may cost. -/
def wtP (T : Nat → Pt) : Nat → Pt → Nat
  | 0, p => 2 * p.rs.length + 1
  | n + 1, p => match p.kids with
    | none => 2 * p.rs.length + 1
    | some (l, h) => 1 + wtP T n (T l) + wtP T n (T h)

theorem rowsP_leaf {T : Nat → Pt} {p : Pt} (h : p.kids = none) : ∀ n, rowsP T n p = p.rs
  | 0 => rfl
  | n + 1 => by rw [rowsP, h]
theorem wtP_leaf {T : Nat → Pt} {p : Pt} (h : p.kids = none) : ∀ n, wtP T n p = 2 * p.rs.length + 1
  | 0 => rfl
  | n + 1 => by rw [wtP, h]
theorem okP_leaf {T : Nat → Pt} {d : Nat} {p : Pt} (h : p.kids = none) : ∀ n, OkP T d n p ↔ p.rs ≠ [] ∧ BoxOk d p p.rs
  | 0 => by rw [OkP]; exact ⟨fun e => e.2, fun e => ⟨h, e⟩⟩
  | n + 1 => by rw [OkP, h]
theorem okP_node {T : Nat → Pt} {d n l h : Nat} {p : Pt} (hk : p.kids = some (l, h)) (ok : OkP T d n p) : ∃ m, n = m + 1 ∧ OkP T d m (T l) ∧ OkP T d m (T h) ∧ BoxOk d p (rowsP T m (T l) ++ rowsP T m (T h)) ∧ (0 ≤ p.cut.1 ∧ p.cut.1 < (d : Int)) ∧
    (∀ r ∈ rowsP T m (T l), isAb p.cut r = true) ∧ ∀ r ∈ rowsP T m (T h), isAb p.cut r = false := by
  cases n with
  | zero => rw [OkP] at ok; rw [ok.1] at hk; cases hk
  | succ m => rw [OkP, hk] at ok; exact ⟨m, rfl, ok⟩
theorem rowsP_node {T : Nat → Pt} {n l h : Nat} {p : Pt} (hk : p.kids = some (l, h)) : rowsP T (n + 1) p = rowsP T n (T l) ++ rowsP T n (T h) := by rw [rowsP, hk]
theorem wtP_node {T : Nat → Pt} {n l h : Nat} {p : Pt} (hk : p.kids = some (l, h)) : wtP T (n + 1) p = 1 + wtP T n (T l) + wtP T n (T h) := by rw [wtP, hk]
theorem okP_mono {T : Nat → Pt} {d : Nat} : ∀ n p, OkP T d n p → OkP T d (n + 1) p ∧ rowsP T (n + 1) p = rowsP T n p ∧ wtP T (n + 1) p = wtP T n p
  | 0, p, ok => by
    have hk : p.kids = none := by rw [OkP] at ok; exact ok.1
    exact ⟨(okP_leaf hk _).2 ((okP_leaf hk _).1 ok), by rw [rowsP_leaf hk, rowsP_leaf hk], by rw [wtP_leaf hk, wtP_leaf hk]⟩
  | n + 1, p, ok => by
    cases hk : p.kids with
    | none => exact ⟨(okP_leaf hk _).2 ((okP_leaf hk _).1 ok), by rw [rowsP_leaf hk, rowsP_leaf hk], by rw [wtP_leaf hk, wtP_leaf hk]⟩
    | some lh =>
      obtain ⟨l, h⟩ := lh
      obtain ⟨m, e, o1, o2, o3⟩ := okP_node hk ok
      have e' : n = m := by omega
      subst e'
      obtain ⟨a1, a2, a3⟩ := okP_mono n _ o1
      obtain ⟨b1, b2, b3⟩ := okP_mono n _ o2
      refine ⟨?_, by rw [rowsP_node hk, rowsP_node hk, a2, b2], by rw [wtP_node hk, wtP_node hk, a3, b3]⟩
      rw [OkP, hk]
      dsimp only
      rw [a2, b2]
      exact ⟨a1, b1, o3⟩
theorem okP_box {T : Nat → Pt} {d n : Nat} {p : Pt} (ok : OkP T d n p) : BoxOk d p (rowsP T n p) := by
  cases hk : p.kids with
  | none => rw [rowsP_leaf hk]; exact ((okP_leaf hk n).1 ok).2
  | some lh =>
    obtain ⟨l, h⟩ := lh
    obtain ⟨m, rfl, _, _, o3, _⟩ := okP_node hk ok
    rw [rowsP_node hk]; exact o3
theorem okP_ne {T : Nat → Pt} {d : Nat} : ∀ n p, OkP T d n p → rowsP T n p ≠ []
  | 0, p, ok => by rw [OkP] at ok; rw [rowsP]; exact ok.2.1
  | n + 1, p, ok => by
    cases hk : p.kids with
    | none => rw [rowsP_leaf hk]; exact ((okP_leaf hk _).1 ok).1
    | some lh =>
      obtain ⟨l, h⟩ := lh
      obtain ⟨m, e, o1, _⟩ := okP_node hk ok
      have e' : n = m := by omega
      subst e'
      rw [rowsP_node hk]
      intro e
      exact okP_ne n _ o1 (List.append_eq_nil_iff.1 e).1

/-- A part's bound; parts by falling bounds. -/
def bnd (q : List Int) (p : Pt) : Nat := bx p.L p.H q
def insP (q : List Int) (p : Pt) : List Pt → List Pt
  | [] => [p]
  | u :: r => if bnd q p ≤ bnd q u then u :: insP q p r else p :: u :: r
theorem insP_perm (q : List Int) (p : Pt) : ∀ l, (insP q p l).Perm (p :: l)
  | [] => List.Perm.refl _
  | u :: r => by
    rw [insP]
    split
    · exact ((insP_perm q p r).cons u).trans (List.Perm.swap p u r)
    · exact List.Perm.refl _
def Dsc (q : List Int) (l : List Pt) : Prop := l.Pairwise fun u v => bnd q v ≤ bnd q u
theorem insP_dsc (q : List Int) (p : Pt) : ∀ l, Dsc q l → Dsc q (insP q p l)
  | [], _ => List.pairwise_singleton _ _
  | u :: r, h => by
    rw [insP]
    have h1 := List.pairwise_cons.1 h
    split
    · rename_i hle
      refine List.pairwise_cons.2 ⟨fun x hx => ?_, insP_dsc q p r h1.2⟩
      rcases List.mem_cons.1 ((insP_perm q p r).subset hx) with e | e
      · rw [e]; exact hle
      · exact h1.1 x e
    · rename_i hle
      refine List.pairwise_cons.2 ⟨fun x hx => ?_, h⟩
      rcases List.mem_cons.1 hx with e | e
      · rw [e]; omega
      · have := h1.1 x e; omega
/-- Where a part goes: behind all whose bound is not below its own. -/
theorem insP_at (q : List Int) (p : Pt) : ∀ l, Dsc q l → insP q p l = l.take (l.countP fun u => decide (bnd q p ≤ bnd q u)) ++ p :: l.drop (l.countP fun u => decide (bnd q p ≤ bnd q u))
  | [], _ => rfl
  | u :: r, h => by
    have h1 := List.pairwise_cons.1 h
    rw [insP]
    split
    · rename_i hle
      rw [List.countP_cons_of_pos (by simpa using hle), List.take_succ_cons, List.drop_succ_cons, List.cons_append, ← insP_at q p r h1.2]
    · rename_i hle
      have h0 : (u :: r).countP (fun u => decide (bnd q p ≤ bnd q u)) = 0 := by
        rw [List.countP_eq_zero]
        intro x hx
        rcases List.mem_cons.1 hx with e | e
        · rw [e]; simpa using hle
        · have := h1.1 x e; simp; omega
      rw [h0]; rfl

/-- The number that a hit's distance is. -/
def dN (x : Tk.Ht) : Nat := (x.2.1 * 18446744073709551616 + x.2.2).toNat
theorem dN_hit (q : List Int) (r : Rw) : dN (hitOf q r) = dst q r.2 := by
  unfold dN hitOf hi lo
  dsimp only
  omega
/-- A search under way: the rows that were seen, how many may still be, the parts that are open. -/
structure Sr where
  seen : List Rw
  bud : Nat
  opn : List Pt
def beyond (q : List Int) (k : Nat) (seen : List Rw) (p : Pt) : Bool := decide ((Tk.firsts k (hitsOf q seen)).length = k) && decide (dN (Tk.firsts k (hitsOf q seen))[k - 1]! < bnd q p)
def look (T : Nat → Pt) (q : List Int) (s : Sr) (p : Pt) (o : List Pt) : Sr := match p.kids with
  | some (l, h) => ⟨s.seen, s.bud, insP q (T h) (insP q (T l) o)⟩
  | none => ⟨s.seen ++ p.rs.take (min s.bud p.rs.length), s.bud - min s.bud p.rs.length, if min s.bud p.rs.length < p.rs.length then insP q ⟨p.L, p.H, p.rs.drop (min s.bud p.rs.length), (0, 0, 0), none⟩ o else o⟩
def stepS (T : Nat → Pt) (q : List Int) (k : Nat) (s : Sr) : Option Sr := match s.opn.getLast? with
  | none => none
  | some p => if beyond q k s.seen p = true then none else if p.kids = none ∧ s.bud = 0 then none else some (look T q s p s.opn.dropLast)
def runS (T : Nat → Pt) (q : List Int) (k : Nat) : Nat → Sr → Sr
  | 0, s => s
  | n + 1, s => match stepS T q k s with
    | none => s
    | some s' => runS T q k n s'
theorem runS_stop {T : Nat → Pt} {q : List Int} {k : Nat} {s : Sr} (h : stepS T q k s = none) : ∀ n, runS T q k n s = s
  | 0 => rfl
  | n + 1 => by rw [runS, h]
/-- What holds all through a search of the rows rs. -/
structure InvS (T : Nat → Pt) (d N : Nat) (q : List Int) (b0 : Nat) (rs : List Rw) (s : Sr) : Prop where
  rows : (s.seen ++ s.opn.flatMap (rowsP T N)).Perm rs
  ok : ∀ p ∈ s.opn, OkP T d N p
  dsc : Dsc q s.opn
  bud : s.seen.length + s.bud = b0
def wtS (T : Nat → Pt) (N : Nat) (s : Sr) : Nat := (s.opn.map (wtP T N)).sum
theorem wtP_pos (T : Nat → Pt) : ∀ n p, 0 < wtP T n p
  | 0, p => by rw [wtP]; omega
  | n + 1, p => by
    rw [wtP]; split <;> omega
theorem last_split {l : List Pt} {p : Pt} (h : l.getLast? = some p) : l = l.dropLast ++ [p] := by
  have hne : l ≠ [] := by intro e; rw [e] at h; cases h
  rw [List.getLast?_eq_some_getLast hne] at h
  injection h with h
  rw [← h, List.dropLast_concat_getLast]
theorem flat_perm {f : Pt → List Rw} {l m : List Pt} (p : l.Perm m) : (l.flatMap f).Perm (m.flatMap f) := List.Perm.flatMap_right f p
theorem sum_permN {l m : List Nat} (p : l.Perm m) : l.sum = m.sum := p.sum_nat
theorem look_inv {T : Nat → Pt} {d N : Nat} {q : List Int} {b0 : Nat} {rs : List Rw} {s : Sr} {p : Pt} {o : List Pt} (hs : s.opn = o ++ [p]) (h : InvS T d N q b0 rs s) (hb : ¬ (p.kids = none ∧ s.bud = 0)) :
    InvS T d N q b0 rs (look T q s p o) ∧ wtS T N (look T q s p o) < wtS T N s := by
  have ok := h.ok
  have rows := h.rows
  have dsc := h.dsc
  have hw : wtS T N s = (o.map (wtP T N)).sum + wtP T N p := by unfold wtS; rw [hs]; simp
  rw [hs] at ok rows dsc
  have okp := ok p (by simp)
  have oko : ∀ u ∈ o, OkP T d N u := fun u hu => ok u (List.mem_append_left _ hu)
  have dsco : Dsc q o := dsc.sublist (List.sublist_append_left _ _)
  rw [List.flatMap_append] at rows
  simp only [List.flatMap_cons, List.flatMap_nil, List.append_nil] at rows
  cases hk : p.kids with
  | some lh =>
    obtain ⟨l, hh⟩ := lh
    have e : look T q s p o = ⟨s.seen, s.bud, insP q (T hh) (insP q (T l) o)⟩ := by unfold look; rw [hk]
    obtain ⟨m, rfl, o1, o2, _⟩ := okP_node hk okp
    obtain ⟨a1, a2, a3⟩ := okP_mono m _ o1
    obtain ⟨b1, b2, b3⟩ := okP_mono m _ o2
    have pp : (insP q (T hh) (insP q (T l) o)).Perm (T hh :: T l :: o) := (insP_perm q _ _).trans ((insP_perm q _ _).cons _)
    rw [e]
    refine ⟨⟨?_, fun u hu => ?_, insP_dsc q _ _ (insP_dsc q _ _ dsco), h.bud⟩, ?_⟩
    · dsimp only
      refine List.Perm.trans (List.Perm.append_left _ (flat_perm pp)) (List.Perm.trans ?_ rows)
      simp only [List.flatMap_cons]
      rw [a2, b2, rowsP_node hk]
      refine List.Perm.append_left _ ?_
      refine List.Perm.trans ?_ List.perm_append_comm
      rw [← List.append_assoc]
      exact List.Perm.append_right _ List.perm_append_comm
    · rcases List.mem_cons.1 (pp.subset hu) with e | hu
      · rw [e]; exact b1
      · rcases List.mem_cons.1 hu with e | hu
        · rw [e]; exact a1
        · exact oko u hu
    · rw [hw]
      unfold wtS
      dsimp only
      rw [sum_permN (pp.map (wtP T (m + 1)))]
      simp only [List.map_cons, List.sum_cons]
      rw [a3, b3, wtP_node hk]
      omega
  | none =>
    have hbud : s.bud ≠ 0 := fun e => hb ⟨hk, e⟩
    obtain ⟨hne, hbox⟩ := (okP_leaf hk N).1 okp
    have hlen : 0 < p.rs.length := List.length_pos_iff.2 hne
    rw [rowsP_leaf hk] at rows
    rw [wtP_leaf hk] at hw
    have e : look T q s p o = ⟨s.seen ++ p.rs.take (min s.bud p.rs.length), s.bud - min s.bud p.rs.length, if min s.bud p.rs.length < p.rs.length then insP q ⟨p.L, p.H, p.rs.drop (min s.bud p.rs.length), (0, 0, 0), none⟩ o else o⟩ := by unfold look; rw [hk]
    rw [e]
    obtain ⟨c, hc⟩ : ∃ c, c = min s.bud p.rs.length := ⟨_, rfl⟩
    rw [← hc]
    have hb2 := h.bud
    have htl : (p.rs.take c).length = c := by rw [List.length_take]; omega
    by_cases hlt : c < p.rs.length
    · rw [if_pos hlt]
      have pp := insP_perm q ⟨p.L, p.H, p.rs.drop c, (0, 0, 0), none⟩ o
      refine ⟨⟨?_, fun u hu => ?_, insP_dsc q _ _ dsco, ?_⟩, ?_⟩
      · dsimp only
        refine List.Perm.trans (List.Perm.append_left _ (flat_perm pp)) (List.Perm.trans ?_ rows)
        simp only [List.flatMap_cons]
        rw [rowsP_leaf rfl]
        dsimp only
        rw [List.append_assoc]
        refine List.Perm.append_left _ ?_
        rw [← List.append_assoc, List.take_append_drop]
        exact List.perm_append_comm
      · rcases List.mem_cons.1 (pp.subset hu) with e | hu
        · rw [e]
          refine (okP_leaf rfl N).2 ⟨fun e => ?_, hbox.1, fun r hr => hbox.2 r (List.mem_of_mem_drop hr)⟩
          have := congrArg List.length e
          dsimp only at this
          rw [List.length_drop] at this
          simp at this
          omega
        · exact oko u hu
      · dsimp only
        rw [List.length_append, htl]
        omega
      · rw [hw]
        unfold wtS
        dsimp only
        rw [sum_permN (pp.map (wtP T N))]
        simp only [List.map_cons, List.sum_cons]
        rw [wtP_leaf rfl]
        dsimp only
        rw [List.length_drop]
        omega
    · rw [if_neg hlt]
      have hcl : c = p.rs.length := by omega
      refine ⟨⟨?_, oko, dsco, ?_⟩, ?_⟩
      · dsimp only
        refine List.Perm.trans ?_ rows
        rw [hcl, List.take_length, List.append_assoc]
        exact List.Perm.append_left _ List.perm_append_comm
      · dsimp only
        rw [List.length_append, htl]
        omega
      · rw [hw]; unfold wtS; dsimp only; omega
theorem step_inv {T : Nat → Pt} {d N : Nat} {q : List Int} {k b0 : Nat} {rs : List Rw} {s s' : Sr} (h : InvS T d N q b0 rs s) (e : stepS T q k s = some s') : InvS T d N q b0 rs s' ∧ wtS T N s' < wtS T N s := by
  unfold stepS at e
  cases hl : s.opn.getLast? with
  | none => rw [hl] at e; cases e
  | some p =>
    rw [hl] at e
    dsimp only at e
    split at e
    · cases e
    · split at e
      · cases e
      · rename_i hb
        injection e with e
        rw [← e]
        exact look_inv (last_split hl) h hb
theorem run_inv {T : Nat → Pt} {d N : Nat} {q : List Int} {k b0 : Nat} {rs : List Rw} : ∀ n s, InvS T d N q b0 rs s → wtS T N s ≤ n → InvS T d N q b0 rs (runS T q k n s) ∧ stepS T q k (runS T q k n s) = none
  | 0, s, h, hw => by
    refine ⟨h, ?_⟩
    show stepS T q k s = none
    cases e : stepS T q k s with
    | none => rfl
    | some s' => have := (step_inv h e).2; omega
  | n + 1, s, h, hw => by
    rw [runS]
    cases e : stepS T q k s with
    | none => exact ⟨h, e⟩
    | some s' =>
      obtain ⟨h1, h2⟩ := step_inv h e
      exact run_inv n s' h1 (by omega)
/-- Why a search stops. -/
theorem step_none {T : Nat → Pt} {d N : Nat} {q : List Int} {k b0 : Nat} {rs : List Rw} {s : Sr} (h : InvS T d N q b0 rs s) (e : stepS T q k s = none) :
    s.opn = [] ∨ ((Tk.firsts k (hitsOf q s.seen)).length = k ∧ ∀ p ∈ s.opn, dN (Tk.firsts k (hitsOf q s.seen))[k - 1]! < bnd q p) ∨ s.bud = 0 := by
  unfold stepS at e
  cases hl : s.opn.getLast? with
  | none => exact .inl (List.getLast?_eq_none_iff.1 hl)
  | some p =>
    rw [hl] at e
    dsimp only at e
    split at e
    · rename_i hb
      unfold beyond at hb
      simp only [Bool.and_eq_true, decide_eq_true_eq] at hb
      refine .inr (.inl ⟨hb.1, fun u hu => ?_⟩)
      have hs := last_split hl
      have dsc := h.dsc
      rw [hs] at hu dsc
      rcases List.mem_append.1 hu with hu | hu
      · have := (List.pairwise_append.1 dsc).2.2 u hu p (by simp)
        omega
      · rw [List.mem_singleton.1 hu]; exact hb.2
    · split at e
      · rename_i hb; exact .inr (.inr hb.2)
      · cases e
end Go.Proofs.YtbnljabeccebiaaGreat
