/- Changes and rows as texts and back, plainly. -/
import Derived.Test.YtmlincnmhjkjgaaCyCoM
import Derived.Test.YtmlincnmhjkjgaaCyCoX
namespace Go.Proofs.Ytmlincnmhjkjgaa
open Go.RowKit Go.Lib

theorem tk_pre {n : Nat} {l : List UInt8} (h : n ≤ l.length) : tk n l = l.take n := by
  unfold tk; rw [show n - l.length = 0 by omega]; simp
theorem leB_tk {n : Nat} {l : List UInt8} (h : n ≤ l.length) : leB (leN (tk n l)) n = l.take n := by
  have := leB_leN (l.take n)
  rw [List.length_take, Nat.min_eq_left h] at this
  rw [tk_pre h, this]
theorem tk_take {n j : Nat} {l : List UInt8} (h : n ≤ j) (hl : n ≤ l.length) : tk n (l.take j) = tk n l := by
  rw [tk_pre hl, tk_pre (by rw [List.length_take]; omega), List.take_take, Nat.min_eq_left h]
theorem tk_more {n : Nat} {l m : List UInt8} (hl : n ≤ l.length) : tk n (l ++ m) = tk n l := by
  rw [tk_pre hl, tk_pre (by rw [List.length_append]; omega), List.take_append_of_le_length hl]
theorem tk_take2 {n a j : Nat} {l : List UInt8} (h : a + n ≤ j) (hl : a + n ≤ l.length) : tk n ((l.take j).drop a) = tk n (l.drop a) := by
  rw [List.drop_take]
  exact tk_take (by omega) (by rw [List.length_drop]; omega)
theorem tk_more2 {n a : Nat} {l m : List UInt8} (hl : a + n ≤ l.length) : tk n ((l ++ m).drop a) = tk n (l.drop a) := by
  rw [List.drop_append_of_le_length (by omega)]
  exact tk_more (by rw [List.length_drop]; omega)
theorem cvI_co {x : Int} (h1 : -2147483648 ≤ x) (h2 : x < 2147483648) : cvI (leN (co1 x)) = x := by
  unfold co1
  rw [leN_leB, Nat.mod_eq_of_lt (by omega)]
  unfold cvI
  split <;> omega
theorem co_cvI {n : Nat} (h : n < 4294967296) : co1 (cvI n) = leB n 4 := by
  unfold co1
  congr 1
  unfold cvI
  split <;> omega
theorem cvN_co {x : Int} (h1 : -2147483648 ≤ x) (h2 : x < 2147483648) (r : List UInt8) : cvN (co1 x ++ r) = x := by
  unfold cvN
  rw [tk_app (co1_length x), cvI_co h1 h2]
theorem coB_append (v u : List Int) : coB (v ++ u) = coB v ++ coB u := by unfold coB; rw [List.flatMap_append]
theorem vecOf_co {v : List Int} (h : allR v = true) (r : List UInt8) : ∀ k, k ≤ v.length → vecOf k (coB v ++ r) = v.take k
  | 0, _ => by simp [vecOf]
  | k + 1, hk => by
    have ih := vecOf_co h r k (by omega)
    have hb := allR_get h (i := k) (by omega)
    have e1 : v = v.take k ++ (v[k]! :: v.drop (k + 1)) := by
      rw [getElem!_pos v k (by omega), List.getElem_cons_drop, List.take_append_drop]
    have e2 : (coB v ++ r).drop (4 * k) = co1 v[k]! ++ (coB (v.drop (k + 1)) ++ r) := by
      have e3 : coB v = coB (v.take k) ++ (co1 v[k]! ++ coB (v.drop (k + 1))) := by
        conv => lhs; rw [e1]
        rw [coB_append]; rfl
      rw [e3, List.append_assoc, List.append_assoc]
      exact List.drop_left' (by rw [coB_length, List.length_take, Nat.min_eq_left (by omega)])
    rw [vecOf, ih, e2, cvN_co (by omega) (by omega), List.take_succ_eq_append_getElem (by omega), getElem!_pos v k (by omega)]
theorem co_vecOf (l : List UInt8) : ∀ k, 4 * k ≤ l.length → coB (vecOf k l) = l.take (4 * k)
  | 0, _ => by simp [vecOf, coB]
  | k + 1, hk => by
    rw [vecOf, coB_append, co_vecOf l k (by omega)]
    have e : coB [cvN (l.drop (4 * k))] = (l.drop (4 * k)).take 4 := by
      unfold coB
      simp only [List.flatMap_cons, List.flatMap_nil, List.append_nil]
      unfold cvN
      rw [co_cvI (tk_lt 4 _), leB_tk (by rw [List.length_drop]; omega)]
    rw [e, show 4 * (k + 1) = 4 * k + 4 by omega, List.take_add]
/-- A change's text is read as the change. -/
theorem chT_back {k id : Int} {v : List Int} (h : chE k id v = 0) : ∃ kn jn : Nat, k = (kn : Int) ∧ id = (jn : Int) ∧ gK (chT k id v) = kn ∧ gI (chT k id v) = jn ∧ gV (chT k id v) = v ∧ GOk (chT k id v) ∧ 5 ≤ (chT k id v).length ∧ (kn = 1 → 10 ≤ (chT k id v).length) ∧ (kn = 1 ∨ kn = 2) := by
  obtain ⟨⟨i1, i2⟩, hh⟩ := chE_zero h
  obtain ⟨jn, rfl⟩ : ∃ jn : Nat, id = (jn : Int) := ⟨id.toNat, by omega⟩
  have hj : leN (leB jn 4) = jn := by rw [leN_leB]; omega
  rcases hh with ⟨rfl, hc, l1, l2⟩ | ⟨rfl, rfl⟩
  · have T : chT 1 (jn : Int) v = leB 1 1 ++ (leB jn 4 ++ (leB v.length 1 ++ coB v)) := by unfold chT; rw [if_pos rfl]; simp
    have k1 : gK (chT 1 (jn : Int) v) = 1 := by rw [T]; unfold gK; rw [tk_app (leB_length 1 1)]; rfl
    have k2 : gI (chT 1 (jn : Int) v) = jn := by
      rw [T]; unfold gI
      rw [List.drop_left' (leB_length 1 1), tk_app (leB_length jn 4), hj]
    have d5 : (leB 1 1 ++ (leB jn 4 ++ (leB v.length 1 ++ coB v))).drop 5 = leB v.length 1 ++ coB v := by
      rw [show (5 : Nat) = 1 + 4 from rfl, ← List.drop_drop, List.drop_left' (leB_length 1 1), List.drop_left' (leB_length jn 4)]
    have k3 : gD (chT 1 (jn : Int) v) = v.length := by
      rw [T]; unfold gD
      rw [d5, tk_app (leB_length v.length 1), leN_leB]; omega
    have d6 : (leB 1 1 ++ (leB jn 4 ++ (leB v.length 1 ++ coB v))).drop 6 = coB v := by
      rw [show (6 : Nat) = 5 + 1 from rfl, ← List.drop_drop, d5, List.drop_left' (leB_length v.length 1)]
    have hall : allR v = true := by
      unfold chk at hc
      rw [if_pos ⟨by omega, by omega, rfl⟩] at hc
      unfold vErr at hc
      split at hc
      · assumption
      · omega
    have k4 : gV (chT 1 (jn : Int) v) = v := by
      unfold gV
      rw [if_pos k1, k3, T, d6]
      have := vecOf_co hall [] v.length (Nat.le_refl _)
      rw [List.append_nil, List.take_length] at this
      exact this
    have hl : (chT 1 (jn : Int) v).length = 6 + 4 * v.length := by rw [T]; simp only [List.length_append, leB_length, coB_length]; omega
    refine ⟨1, jn, rfl, rfl, k1, k2, k4, ⟨?_, ?_⟩, by omega, fun _ => by omega, .inl rfl⟩
    · unfold gL; rw [if_pos k1, k3, hl]
    · rw [k1, k2, k4]; exact h
  · have T : chT 2 (jn : Int) [] = leB 2 1 ++ leB jn 4 := by unfold chT; rw [if_neg (by decide), List.append_nil]; rfl
    have k1 : gK (chT 2 (jn : Int) []) = 2 := by rw [T]; unfold gK; rw [tk_app (leB_length 2 1)]; rfl
    have k2 : gI (chT 2 (jn : Int) []) = jn := by
      rw [T]; unfold gI
      have := tk_app (leB_length jn 4) (B := [])
      rw [List.append_nil] at this
      rw [List.drop_left' (leB_length 2 1), this, hj]
    have k4 : gV (chT 2 (jn : Int) []) = [] := by unfold gV; rw [if_neg (by rw [k1]; decide)]
    have hl : (chT 2 (jn : Int) []).length = 5 := by rw [T]; simp only [List.length_append, leB_length]
    refine ⟨2, jn, rfl, rfl, k1, k2, k4, ⟨?_, ?_⟩, by omega, fun e => by omega, .inr rfl⟩
    · unfold gL; rw [if_neg (by rw [k1]; decide), hl]
    · rw [k1, k2, k4]; exact h
/-- Not with a byte more or one less. -/
theorem gok_more {l : List UInt8} (h : GOk l) (h1 : 5 ≤ l.length) (h2 : gK l = 1 → 10 ≤ l.length) (x : UInt8) : ¬ GOk (l ++ [x]) := by
  intro g
  have e1 : gK (l ++ [x]) = gK l := by unfold gK; rw [tk_more (by omega)]
  have e2 := g.1
  have e3 := h.1
  unfold gL at e2 e3
  rw [e1] at e2
  by_cases k1 : gK l = 1
  · have e4 : gD (l ++ [x]) = gD l := by unfold gD; rw [tk_more2 (by have := h2 k1; omega)]
    rw [if_pos k1] at e2 e3
    rw [e4, List.length_append, List.length_singleton] at e2
    omega
  · rw [if_neg k1] at e2 e3
    rw [List.length_append, List.length_singleton] at e2
    omega
theorem gok_less {l : List UInt8} (h : GOk l) (h1 : 5 ≤ l.length) (h2 : gK l = 1 → 10 ≤ l.length) : ¬ GOk (l.take (l.length - 1)) := by
  intro g
  have e1 : gK (l.take (l.length - 1)) = gK l := by unfold gK; rw [tk_take (by omega) (by omega)]
  have e2 := g.1
  have e3 := h.1
  unfold gL at e2 e3
  rw [e1] at e2
  by_cases k1 : gK l = 1
  · have e4 : gD (l.take (l.length - 1)) = gD l := by unfold gD; rw [tk_take2 (by have := h2 k1; omega) (by have := h2 k1; omega)]
    rw [if_pos k1] at e2 e3
    rw [e4, List.length_take] at e2
    omega
  · rw [if_neg k1] at e2 e3
    rw [List.length_take] at e2
    omega
/-- What is read as a change is its text. -/
theorem chT_gok {l : List UInt8} (h : GOk l) : chT (gK l : Int) (gI l : Int) (gV l) = l := by
  obtain ⟨h1, h2⟩ := h
  obtain ⟨_, hh⟩ := chE_zero h2
  unfold gL at h1
  rcases hh with ⟨k1, hc, l1, l2⟩ | ⟨k2, v0⟩
  · have k1 : gK l = 1 := by omega
    rw [if_pos k1] at h1
    have hv : gV l = vecOf (gD l) (l.drop 6) := by unfold gV; rw [if_pos k1]
    unfold chT
    rw [if_pos (by rw [k1]; rfl), hv, vecOf_length, co_vecOf _ _ (by rw [List.length_drop]; omega)]
    have e1 : leB ((gK l : Int)).toNat 1 = l.take 1 := by rw [Int.toNat_natCast]; unfold gK; exact leB_tk (by omega)
    have e2 : leB ((gI l : Int)).toNat 4 = (l.drop 1).take 4 := by rw [Int.toNat_natCast]; unfold gI; exact leB_tk (by rw [List.length_drop]; omega)
    have e3 : leB (gD l) 1 = (l.drop 5).take 1 := by unfold gD; exact leB_tk (by rw [List.length_drop]; omega)
    have e4 : (l.drop 6).take (4 * gD l) = l.drop 6 := List.take_of_length_le (by rw [List.length_drop]; omega)
    rw [e1, e2, e3, e4]
    have e5 : (l.drop 5).take 1 ++ l.drop 6 = l.drop 5 := by
      conv => rhs; rw [← List.take_append_drop 1 (l.drop 5)]
      rw [List.drop_drop]
    have e6 : (l.drop 1).take 4 ++ l.drop 5 = l.drop 1 := by
      conv => rhs; rw [← List.take_append_drop 4 (l.drop 1)]
      rw [List.drop_drop]
    rw [e5, List.append_assoc, e6, List.take_append_drop]
  · have k2 : gK l = 2 := by omega
    rw [if_neg (by omega)] at h1
    unfold chT
    rw [if_neg (by rw [k2]; decide), List.append_nil]
    have e1 : leB ((gK l : Int)).toNat 1 = l.take 1 := by rw [Int.toNat_natCast]; unfold gK; exact leB_tk (by omega)
    have e2 : leB ((gI l : Int)).toNat 4 = (l.drop 1).take 4 := by rw [Int.toNat_natCast]; unfold gI; exact leB_tk (by rw [List.length_drop]; omega)
    rw [e1, e2, List.take_of_length_le (l := l.drop 1) (by rw [List.length_drop]; omega), List.take_append_drop]
end Go.Proofs.Ytmlincnmhjkjgaa
