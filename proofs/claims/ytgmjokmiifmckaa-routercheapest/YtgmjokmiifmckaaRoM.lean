/- The cheapest of some ways; more rows never cost less (plainly). -/
import Derived.Test.YtgmjokmiifmckaaRoK
namespace Go.Proofs.Ytgmjokmiifmckaa
open Go.RowKit

theorem chGo_min (f : N4 → Int) (l : List N4) : ∀ q, 1 ≤ q → ∃ j : Nat, j < q ∧ (chGo f l q).1 = (j : Int) ∧ (chGo f l q).2 = f l[j]! ∧ (∀ i, i < q → f l[j]! ≤ f l[i]!) ∧ ∀ i, i < j → f l[j]! < f l[i]!
  | 0, h => absurd h (by omega)
  | 1, _ => by
    refine ⟨0, by omega, by simp [chGo], by simp [chGo], fun i hi => ?_, fun i hi => absurd hi (Nat.not_lt_zero _)⟩
    obtain rfl : i = 0 := by omega
    exact Int.le_refl _
  | q + 2, _ => by
    obtain ⟨j, h1, h2, h3, h4, h5⟩ := chGo_min f l (q + 1) (by omega)
    by_cases hlt : f l[q + 1]! < (chGo f l (q + 1)).2
    · have e : chGo f l (q + 2) = (((q + 1 : Nat) : Int), f l[q + 1]!) := by
        show (if q + 1 = 0 ∨ f l[q + 1]! < (chGo f l (q + 1)).2 then _ else _) = _
        rw [if_pos (Or.inr hlt)]
      rw [h3] at hlt
      refine ⟨q + 1, by omega, by rw [e], by rw [e], fun i hi => ?_, fun i hi => ?_⟩
      · by_cases hi2 : i = q + 1
        · subst hi2; exact Int.le_refl _
        · have := h4 i (by omega); omega
      · have := h4 i (by omega); omega
    · have e : chGo f l (q + 2) = chGo f l (q + 1) := by
        show (if q + 1 = 0 ∨ f l[q + 1]! < (chGo f l (q + 1)).2 then _ else _) = _
        rw [if_neg (by rintro (h | h); omega; exact hlt h)]
      rw [h3] at hlt
      refine ⟨j, by omega, by rw [e]; exact h2, by rw [e]; exact h3, fun i hi => ?_, h5⟩
      by_cases hi2 : i = q + 1
      · subst hi2; omega
      · exact h4 i (by omega)
theorem chGo_app (f : N4 → Int) (l : List N4) (s : N4) : ∀ q, q ≤ l.length → chGo f (l ++ [s]) q = chGo f l q
  | 0, _ => rfl
  | q + 1, h => by
    have e : (l ++ [s])[q]! = l[q]! := by rw [getElem!_pos (l ++ [s]) q (by simp; omega), getElem!_pos l q (by omega), List.getElem_append_left (by omega)]
    simp only [chGo]
    rw [chGo_app f l s q (by omega), e]
theorem fN_two (rows dim : Int) (s : N4) : fN rows dim 2 s = cstN s.1 s.2.1 s.2.2.1 s.2.2.2 rows dim := by
  unfold fN
  rw [if_neg (by omega)]
  omega
theorem dig_mono {n : Int} (h0 : 0 ≤ n) (h1 : n < 512) : digV n ≤ digV (n + 1) := by
  obtain ⟨m, rfl⟩ := Int.eq_ofNat_of_zero_le h0
  have hm : m < 512 := by omega
  have : ∀ x : Fin 512, Lib.bitLen x.val ≤ Lib.bitLen (x.val + 1) := by decide +kernel
  have := this ⟨m, hm⟩
  unfold digV
  rw [show ((m : Int) + 1) = ((m + 1 : Nat) : Int) by omega]
  simp only [Int.toNat_natCast] at *
  omega
theorem up_mono {a a' b : Int} (h : a ≤ a') (hb : 1 ≤ b) : upV a b ≤ upV a' b := by
  unfold upV
  exact Int.ediv_le_ediv (by omega) (by omega)
theorem half_mono {rows n dim t : Int} (h0 : 0 ≤ rows) (h1 : rows < 512) (hd : 1 ≤ dim) (hn : 0 ≤ n) (ht : 0 ≤ t) : dim * min rows (t * n * digV rows) ≤ dim * min (rows + 1) (t * n * digV (rows + 1)) := by
  have a := Int.mul_le_mul_of_nonneg_left (dig_mono h0 h1) (Int.mul_nonneg ht hn)
  refine Int.mul_le_mul_of_nonneg_left ?_ (by omega)
  omega
theorem cost_mono {k n p c rows dim : Int} (h : cstE k n p c rows dim = 0) (hr : rows < 512) : cstE k n p c (rows + 1) dim = 0 ∧ cstN k n p c rows dim ≤ cstN k n p c (rows + 1) dim := by
  have h' := h
  unfold cstE at h
  split at h
  · rename_i h0
    split at h
    · cases h
    · rename_i h1
      have e : cstE k n p c (rows + 1) dim = 0 := by unfold cstE; rw [if_pos h0, if_neg (by omega)]
      refine ⟨e, ?_⟩
      unfold cstN
      rw [if_pos h', if_pos e]
      obtain ⟨hk, hn, hn1, hp, hc⟩ := chk_bd h0
      have H := fun t ht => half_mono (rows := rows) (n := n) (dim := dim) (t := t) (by omega) hr (by omega) hn.1 ht
      unfold cstV
      repeat' split
      all_goals first
        | exact H _ (by omega)
        | exact Int.mul_le_mul_of_nonneg_left (by omega) (by omega)
        | (have := up_mono (a := 2 * rows) (a' := 2 * (rows + 1)) (b := n) (by omega) (hn1 (by omega))
           exact Int.mul_le_mul_of_nonneg_left (by omega) (by omega))
        | (have := Int.mul_le_mul_of_nonneg_left (up_mono (a := rows) (a' := rows + 1) (b := n) (by omega) (hn1 (by omega))) hp.1
           omega)
  · rename_i h0; exact absurd h h0
/-- What RouterCheapest leans on, of a choice that was made. -/
theorem cheapest {l : List N4} {rows dim : Int} (h : choE l rows dim 1 2 = 0) : ∃ A : Nat, A < l.length ∧ l.length ≤ 16 ∧ choN l rows dim 1 2 = (A : Int) ∧
    (∀ i, i < l.length → ceN rows dim l[i]! = 0) ∧ (∀ i, i < l.length → fN rows dim 2 l[A]! ≤ fN rows dim 2 l[i]!) ∧ (∀ i, i < A → fN rows dim 2 l[A]! < fN rows dim 2 l[i]!) ∧ (chGo (fN rows dim 2) l l.length) = ((A : Int), fN rows dim 2 l[A]!) := by
  have hn : choN l rows dim 1 2 = (chGo (fN rows dim 2) l l.length).1 := by unfold choN; rw [if_pos h]
  unfold choE at h
  split at h
  · rename_i h0
    obtain ⟨a, b, _⟩ := chcE_ok h0
    obtain ⟨j, h1, h2, h3, h4, h5⟩ := chGo_min (fN rows dim 2) l l.length a
    refine ⟨j, h1, b, by rw [hn, h2], fun i hi => ?_, h4, h5, Prod.ext h2 h3⟩
    exact erL_all (q := l.length) (by rw [List.take_length]; exact h) i hi hi
  · rename_i h0; exact absurd h h0
theorem cheapest_app {l : List N4} {s : N4} {rows dim : Int} (h : choE (l ++ [s]) rows dim 1 2 = 0) {A : Nat} (hA : A < l.length) (hc : chGo (fN rows dim 2) l l.length = ((A : Int), fN rows dim 2 l[A]!)) :
    ceN rows dim s = 0 ∧ ((choN (l ++ [s]) rows dim 1 2 = (A : Int) ∧ fN rows dim 2 l[A]! ≤ fN rows dim 2 s) ∨ (choN (l ++ [s]) rows dim 1 2 = (l.length : Int) ∧ fN rows dim 2 s < fN rows dim 2 l[A]!)) := by
  obtain ⟨_, _, _, _, hce, _⟩ := cheapest h
  have es : (l ++ [s])[l.length]! = s := by rw [getElem!_pos (l ++ [s]) l.length (by simp)]; simp
  have h1 := hce l.length (by simp)
  rw [es] at h1
  refine ⟨h1, ?_⟩
  have hn : choN (l ++ [s]) rows dim 1 2 = (chGo (fN rows dim 2) (l ++ [s]) (l.length + 1)).1 := by unfold choN; rw [if_pos h]; simp
  have hs : chGo (fN rows dim 2) (l ++ [s]) (l.length + 1) = if l.length = 0 ∨ fN rows dim 2 s < fN rows dim 2 l[A]! then ((l.length : Int), fN rows dim 2 s) else ((A : Int), fN rows dim 2 l[A]!) := by
    simp only [chGo]
    rw [chGo_app _ _ _ _ (Nat.le_refl _), es, hc]
  rw [hn, hs]
  by_cases hlt : fN rows dim 2 s < fN rows dim 2 l[A]!
  · rw [if_pos (Or.inr hlt)]; exact Or.inr ⟨rfl, hlt⟩
  · rw [if_neg (by omega)]; exact Or.inl ⟨rfl, by omega⟩
end Go.Proofs.Ytgmjokmiifmckaa
