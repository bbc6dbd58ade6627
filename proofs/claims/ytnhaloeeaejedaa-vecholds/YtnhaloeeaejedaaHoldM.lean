/- What VecHolds asks of boxes and balls. -/
import Derived.Test.YtnhaloeeaejedaaBall
import Derived.Test.YtnhaloeeaejedaaMath
namespace Go.Proofs.Ytnhaloeeaejedaa
open Go.RowKit Go.Sort

theorem mnN_le (f : Nat → Int) (x : Int) : ∀ k j, j < k → mnN f x k ≤ f j
  | k + 1, j, h => by
    simp only [mnN]
    by_cases e : j = k
    · subst e; omega
    · have := mnN_le f x k j (by omega); omega
theorem mxN_ge (f : Nat → Int) (x : Int) : ∀ k j, j < k → f j ≤ mxN f x k
  | k + 1, j, h => by
    simp only [mxN]
    by_cases e : j = k
    · subst e; omega
    · have := mxN_ge f x k j (by omega); omega
theorem mnN_is (f : Nat → Int) (x : Int) : ∀ k, mnN f x k = x ∨ ∃ j, j < k ∧ mnN f x k = f j
  | 0 => .inl rfl
  | k + 1 => by
    simp only [mnN]
    rcases Int.le_total (mnN f x k) (f k) with h | h
    · rw [Int.min_eq_left h]
      rcases mnN_is f x k with e | ⟨j, hj, e⟩
      · exact .inl e
      · exact .inr ⟨j, by omega, e⟩
    · rw [Int.min_eq_right h]; exact .inr ⟨k, by omega, rfl⟩
theorem mxN_is (f : Nat → Int) (x : Int) : ∀ k, mxN f x k = x ∨ ∃ j, j < k ∧ mxN f x k = f j
  | 0 => .inl rfl
  | k + 1 => by
    simp only [mxN]
    rcases Int.le_total (mxN f x k) (f k) with h | h
    · rw [Int.max_eq_right h]; exact .inr ⟨k, by omega, rfl⟩
    · rw [Int.max_eq_left h]
      rcases mxN_is f x k with e | ⟨j, hj, e⟩
      · exact .inl e
      · exact .inr ⟨j, by omega, e⟩
theorem lo_is {rs : List Rw} (h : 1 ≤ rs.length) (i : Nat) : ∃ j, j < rs.length ∧ loAt rs rs.length i = rs[j]!.2[i]! := by
  rcases mnN_is (fun j => rs[j]!.2[i]!) rs[0]!.2[i]! rs.length with e | ⟨j, hj, e⟩
  · exact ⟨0, h, e⟩
  · exact ⟨j, hj, e⟩
theorem hi_is {rs : List Rw} (h : 1 ≤ rs.length) (i : Nat) : ∃ j, j < rs.length ∧ hiAt rs rs.length i = rs[j]!.2[i]! := by
  rcases mxN_is (fun j => rs[j]!.2[i]!) rs[0]!.2[i]! rs.length with e | ⟨j, hj, e⟩
  · exact ⟨0, h, e⟩
  · exact ⟨j, hj, e⟩
theorem lo_le {rs : List Rw} {j : Nat} (hj : j < rs.length) (i : Nat) : loAt rs rs.length i ≤ rs[j]!.2[i]! := mnN_le (fun j => rs[j]!.2[i]!) _ _ j hj
theorem hi_ge {rs : List Rw} {j : Nat} (hj : j < rs.length) (i : Nat) : rs[j]!.2[i]! ≤ hiAt rs rs.length i := mxN_ge (fun j => rs[j]!.2[i]!) _ _ j hj

theorem riseTo_of {l : List Int} : ∀ q, q ≤ l.length → (∀ i, i < l.length → okId l[i]! = true) → (∀ i, i + 1 < l.length → l[i]! < l[i + 1]!) → riseTo l q = true
  | 0, _, _, _ => rfl
  | q + 1, hq, h1, h2 => by
    simp only [riseTo, okAt]
    rw [riseTo_of q (by omega) h1 h2, h1 q (by omega)]
    cases q with
    | zero => rfl
    | succ p => rw [Nat.add_sub_cancel, decide_eq_true (h2 p (by omega))]; simp
theorem ids_nodup {rs : List Rw} (h : ∀ i, i < rs.length → ((idsOf rs).take i).contains rs[i]!.1 = false) : (idsOf rs).Pairwise (· ≠ ·) := by
  rw [List.pairwise_iff_getElem]
  intro i j hi hj hij e
  have hl : (idsOf rs).length = rs.length := by simp [idsOf]
  have h1 := h j (by omega)
  rw [List.contains_eq_mem, decide_eq_false_iff_not] at h1
  apply h1
  have e2 : rs[j]!.1 = (idsOf rs)[j] := by rw [getElem!_pos rs j (by omega)]; simp [idsOf]
  rw [e2, ← e]
  exact List.mem_take_iff_getElem.2 ⟨i, by omega, rfl⟩
theorem srt_rise {rs : List Rw} (h : ∀ i, i < rs.length → okId rs[i]!.1 = true ∧ ((idsOf rs).take i).contains rs[i]!.1 = false) : rise (srt (idsOf rs)) = true := by
  have hp : (srt (idsOf rs)).Perm (idsOf rs) := List.mergeSort_perm _ _
  have hs : (srt (idsOf rs)).Pairwise (fun x y => decide (x ≤ y) = true) := List.pairwise_mergeSort (by intro a b c h1 h2; simp at *; omega) (by intro a b; simp; omega) _
  have hn : (srt (idsOf rs)).Pairwise (· ≠ ·) := (hp.symm.pairwise_iff (fun h => Ne.symm h)).1 (ids_nodup fun i hi => (h i hi).2)
  refine riseTo_of _ (Nat.le_refl _) ?_ ?_
  · intro i hi
    have hm : (srt (idsOf rs))[i]! ∈ idsOf rs := by
      rw [getElem!_pos _ i hi]
      exact hp.mem_iff.1 (List.getElem_mem hi)
    obtain ⟨x, hx, e⟩ := List.mem_map.1 hm
    obtain ⟨j, hj, e2⟩ := List.getElem_of_mem hx
    have := (h j hj).1
    rw [getElem!_pos rs j hj, e2, e] at this
    exact this
  · intro i hi
    rw [getElem!_pos _ i (by omega), getElem!_pos _ (i + 1) hi]
    have h1 := List.pairwise_iff_getElem.1 hs i (i + 1) (by omega) hi (by omega)
    have h2 := List.pairwise_iff_getElem.1 hn i (i + 1) (by omega) hi (by omega)
    simp at h1
    omega
theorem allR_tab {f : Nat → Int} {m : Nat} (h : ∀ i, i < m → -2147483647 ≤ f i ∧ f i ≤ 2147483647) : allR (tab f m) = true := by
  unfold allR tab
  rw [List.all_eq_true]
  intro x hx
  obtain ⟨i, hi, e⟩ := List.mem_map.1 hx
  subst e
  exact (inR_iff _).2 (h i (List.mem_range.1 hi))
theorem below_of {l h : List Int} : ∀ q, (∀ i, i < q → l[i]! ≤ h[i]!) → below l h q = true
  | 0, _ => rfl
  | q + 1, k => by simp only [below]; rw [below_of q fun i hi => k i (by omega), decide_eq_true (k q (by omega))]; rfl
theorem chk_yes {l : List Int} {d : Int} (h1 : 1 ≤ d ∧ d ≤ 64 ∧ (l.length : Int) = d) (h2 : allR l = true) : chk l d = 0 := by
  unfold chk vErr; rw [if_pos h1, if_pos h2]
theorem gap_in {l h x : Int} (h1 : l ≤ x) (h2 : x ≤ h) : gap l h x = 0 := by unfold gap; split <;> (try split) <;> omega
theorem gap_low {l h x : Int} (h1 : x < l) : gap l h x ≠ 0 := by unfold gap; split <;> (try split) <;> omega
theorem sumN_all {f : Nat → Nat} : ∀ {n : Nat}, (∀ i, i < n → f i = 0) → sumN f n = 0
  | 0, _ => rfl
  | n + 1, h => by simp only [sumN]; rw [sumN_all fun i hi => h i (by omega), h n (by omega)]

/-- What the rows of a box are. -/
theorem rows_of {rs : List Rw} {m : Nat} (h : boxE rs (m : Int) = 0) : 1 ≤ m ∧ m ≤ 64 ∧ 1 ≤ rs.length ∧ rise (srt (idsOf rs)) = true ∧ rs.length ≤ 512 ∧ ∀ j, j < rs.length → rs[j]!.2.length = m ∧ allR rs[j]!.2 = true := by
  obtain ⟨d1, d2, d3, d4⟩ := boxE_ok h
  obtain ⟨r1, r2⟩ := idsE_ok d4
  refine ⟨by omega, by omega, d3, srt_rise fun i hi => (r2 i hi).2, r1, fun j hj => ?_⟩
  have := chk_ok (r2 j hj).1
  exact ⟨by omega, this.2.2.2⟩
theorem box_ck {rs : List Rw} {m : Nat} (h : boxE rs (m : Int) = 0) {f : Nat → Int} (hf : ∀ i, i < m → -2147483647 ≤ f i ∧ f i ≤ hiAt rs rs.length i) {j : Nat} (hj : j < rs.length) :
    ckB ⟨2, tab f m, boxH rs m, 0, srt (idsOf rs)⟩ rs[j]!.2 = 0 := by
  obtain ⟨m1, m2, n1, hr, _, hv⟩ := rows_of h
  obtain ⟨v1, v2⟩ := hv j hj
  have hH : ∀ i, i < m → -2147483647 ≤ hiAt rs rs.length i ∧ hiAt rs rs.length i ≤ 2147483647 := by
    intro i hi
    obtain ⟨t, ht, e⟩ := hi_is n1 i
    rw [e]
    obtain ⟨q1, q2⟩ := hv t ht
    exact allR_get q2 (by omega)
  have c1 : chk (tab f m) (m : Int) = 0 := chk_yes ⟨by omega, by omega, by rw [tab_len]⟩ (allR_tab fun i hi => ⟨(hf i hi).1, by have := (hf i hi).2; have := (hH i hi).2; omega⟩)
  have c2 : chk (boxH rs m) (m : Int) = 0 := chk_yes ⟨by omega, by omega, by unfold boxH; rw [tab_len]⟩ (allR_tab hH)
  have c3 : below (tab f m) (boxH rs m) (tab f m).length = true := by
    rw [tab_len]
    refine below_of m fun i hi => ?_
    unfold boxH
    rw [tab_get _ hi, tab_get _ hi]; exact (hf i hi).2
  have e1 : ckR ⟨2, tab f m, boxH rs m, 0, srt (idsOf rs)⟩ (m : Int) = 0 := by
    unfold ckR uses cornE
    rw [if_pos ⟨by omega, by omega⟩]
    simp [hr, c1, c2, c3]
  unfold ckB
  rw [v1, if_pos e1]
  exact chk_yes ⟨by omega, by omega, by omega⟩ v2
theorem box_in {rs : List Rw} {m : Nat} (h : boxE rs (m : Int) = 0) {j : Nat} (hj : j < rs.length) : ckB (boxR rs (m : Int)) rs[j]!.2 = 0 ∧ insV (boxR rs (m : Int)) rs[j]!.2 = true := by
  obtain ⟨m1, m2, n1, hr, _, hv⟩ := rows_of h
  have e : boxR rs (m : Int) = ⟨2, tab (loAt rs rs.length) m, boxH rs m, 0, srt (idsOf rs)⟩ := by unfold boxR; rw [if_pos h]; rfl
  rw [e]
  have c := box_ck h (f := loAt rs rs.length) (fun i hi => by
    obtain ⟨t, ht, e⟩ := lo_is n1 i
    obtain ⟨q1, q2⟩ := hv t ht
    have h1 := allR_get q2 (i := i) (by omega)
    have h2 := hi_ge ht i
    rw [e]; exact ⟨h1.1, h2⟩) hj
  refine ⟨c, ?_⟩
  unfold insV
  rw [c]
  have hb : bx (tab (loAt rs rs.length) m) (boxH rs m) rs[j]!.2 = 0 := by
    unfold bx bxN
    refine sumN_all fun i hi => ?_
    have hi : i < m := by have := (hv j hj).1; omega
    unfold boxH
    rw [tab_get _ hi, tab_get _ hi, gap_in (lo_le hj i) (hi_ge hj i)]
  unfold inV
  generalize rs[j]!.2 = x at hb ⊢
  simp [hb]
/-- The box, smaller in one coordinate. -/
def cutF (rs : List Rw) (p : Nat) (t : Nat) : Int := if t = p then loAt rs rs.length p + 1 else loAt rs rs.length t
def cutR (rs : List Rw) (m p : Nat) : Reg := ⟨2, tab (cutF rs p) m, boxH rs m, 0, srt (idsOf rs)⟩
theorem cut_ck {rs : List Rw} {m p : Nat} (h : boxE rs (m : Int) = 0) (hp : p < m) (hlt : loAt rs rs.length p < hiAt rs rs.length p) {j : Nat} (hj : j < rs.length) : ckB (cutR rs m p) rs[j]!.2 = 0 := by
  obtain ⟨m1, m2, n1, hr, _, hv⟩ := rows_of h
  refine box_ck h (fun i hi => ?_) hj
  obtain ⟨t, ht, e⟩ := lo_is n1 i
  obtain ⟨q1, q2⟩ := hv t ht
  have h1 := allR_get q2 (i := i) (by omega)
  have h2 := hi_ge ht i
  unfold cutF
  split
  · rename_i e1; subst e1
    omega
  · omega
theorem cut_out {rs : List Rw} {m p : Nat} (h : boxE rs (m : Int) = 0) (hp : p < m) (hlt : loAt rs rs.length p < hiAt rs rs.length p) : ∃ j, j < rs.length ∧ insV (cutR rs m p) rs[j]!.2 = false := by
  obtain ⟨m1, m2, n1, hr, _, hv⟩ := rows_of h
  obtain ⟨j, hj, e⟩ := lo_is n1 p
  refine ⟨j, hj, ?_⟩
  have c := cut_ck h hp hlt hj
  unfold insV
  rw [c]
  have hb : ¬ bx (tab (cutF rs p) m) (boxH rs m) rs[j]!.2 = 0 := by
    intro hb
    unfold bx bxN at hb
    have h1 := sumN_zero hb (i := p) (by have := (hv j hj).1; omega)
    unfold boxH at h1
    rw [tab_get _ hp, tab_get _ hp] at h1
    have h2 : cutF rs p p = loAt rs rs.length p + 1 := by unfold cutF; rw [if_pos rfl]
    rcases Nat.mul_eq_zero.1 h1 with h1 | h1 <;> exact gap_low (by rw [h2]; omega) h1
  unfold inV cutR
  generalize rs[j]!.2 = x at hb ⊢
  simp [hb]
theorem rad_mono {c : List Int} {rs : List Rw} : ∀ k j, j < k → dst c rs[j]!.2 ≤ radN c rs k
  | k + 1, j, h => by
    simp only [radN]
    by_cases e : j = k
    · subst e; split <;> omega
    · have := rad_mono (c := c) (rs := rs) k j (by omega)
      split <;> omega
theorem ball_in {c : List Int} {rs : List Rw} (h : ballE c rs = 0) {j : Nat} (hj : j < rs.length) : ckB (ballR c rs) rs[j]!.2 = 0 ∧ insV (ballR c rs) rs[j]!.2 = true := by
  obtain ⟨ce, ie⟩ := ballE_ok h
  obtain ⟨r1, r2⟩ := idsE_ok ie
  have hr := srt_rise fun i hi => (r2 i hi).2
  have v := chk_ok (r2 j hj).1
  have e : ballR c rs = ⟨3, c, [], radN c rs rs.length, srt (idsOf rs)⟩ := by unfold ballR; rw [if_pos h]
  rw [e]
  have vl : (rs[j]!.2.length : Int) = (c.length : Int) := by omega
  have k := chk_ok ce
  have e1 : ckR ⟨3, c, [], radN c rs rs.length, srt (idsOf rs)⟩ (c.length : Int) = 0 := by
    unfold ckR uses
    rw [if_pos ⟨by omega, by omega⟩]
    simp [hr, ce]
  have c1 : ckB ⟨3, c, [], radN c rs rs.length, srt (idsOf rs)⟩ rs[j]!.2 = 0 := by
    unfold ckB
    rw [vl, if_pos e1]
    exact (r2 j hj).1
  refine ⟨c1, ?_⟩
  unfold insV
  rw [c1]
  have := rad_mono (c := c) (rs := rs) rs.length j hj
  unfold inV
  generalize rs[j]!.2 = x at this ⊢
  simp [this]
end Go.Proofs.Ytnhaloeeaejedaa
