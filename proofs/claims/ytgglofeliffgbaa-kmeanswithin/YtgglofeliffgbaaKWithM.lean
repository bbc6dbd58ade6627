/- Bounds of coordinates; as many centres as vectors cost nothing. -/
import Derived.Test.YtgglofeliffgbaaKCost
namespace Go.Proofs.Ytgglofeliffgbaa
open Go.RowKit

theorem rdi_at {w : World} {a : Option Addr} {n cap : Nat} {l : List Int} (h : RdI w (.slice a n cap) l) {i : Nat} (hi : i < l.length) : ∃ b o, a = some ⟨b, o, none⟩ ∧ w.cell? ⟨b, o + i, none⟩ = some (.int .i64 l[i]!) := by
  obtain ⟨_, _, e, h⟩ := h
  cases e
  exact h i hi
/-- The least and the greatest of coordinate t, of the first q vectors and the first one. -/
def loTo (l : Vs) (t : Nat) : Nat → Int
  | 0 => l[0]![t]!
  | q + 1 => min (loTo l t q) l[q]![t]!
def hiTo (l : Vs) (t : Nat) : Nat → Int
  | 0 => l[0]![t]!
  | q + 1 => max (hiTo l t q) l[q]![t]!
theorem loTo_le (l : Vs) (t : Nat) : ∀ q i, i < q → loTo l t q ≤ l[i]![t]!
  | 0, i, hi => absurd hi (Nat.not_lt_zero _)
  | q + 1, i, hi => by
    rw [loTo]
    by_cases e : i = q
    · subst e; exact Int.min_le_right _ _
    · exact Int.le_trans (Int.min_le_left _ _) (loTo_le l t q i (by omega))
theorem hiTo_le (l : Vs) (t : Nat) : ∀ q i, i < q → l[i]![t]! ≤ hiTo l t q
  | 0, i, hi => absurd hi (Nat.not_lt_zero _)
  | q + 1, i, hi => by
    rw [hiTo]
    by_cases e : i = q
    · subst e; exact Int.le_max_right _ _
    · exact Int.le_trans (hiTo_le l t q i (by omega)) (Int.le_max_left _ _)
theorem within_lohi {l cs : Vs} {d i t : Nat} (h : Within l cs d) (hi : i < cs.length) (ht : t < d) : loTo l t l.length ≤ cs[i]![t]! ∧ cs[i]![t]! ≤ hiTo l t l.length :=
  (h i hi).2 t ht _ _ (fun j hj => ⟨loTo_le l t _ j hj, hiTo_le l t _ j hj⟩)

theorem sumN_nil (f : Nat → Nat) (h : ∀ i, f i = 0) : ∀ n, sumN f n = 0
  | 0 => rfl
  | n + 1 => by rw [sumN, sumN_nil f h n, h n]
theorem gap_self (x : Int) : gap x x x = 0 := by unfold gap; simp
theorem dst_self (a : List Int) : dst a a = 0 := sumN_nil _ (fun i => by rw [gap_self]) _
/-- Each number comes. -/
theorem sg_sg (i j t : Nat) : Rn.sg i j (Rn.sg i j t) = t := by
  unfold Rn.sg
  by_cases h1 : t = j <;> by_cases h2 : t = i <;> by_cases h3 : i = j <;> simp [h1, h2, h3] <;> omega
theorem pS_sur (x : Int) (n : Nat) : ∀ k, k ≤ n - 1 → ∀ j, j < n → ∃ i, i < n ∧ Rn.pS x n k i = (j : Int)
  | 0, _, j, hj => ⟨j, hj, rfl⟩
  | k + 1, hk, j, hj => by
    obtain ⟨i, hi, e⟩ := pS_sur x n k (by omega) j hj
    have r1 := Int.emod_nonneg (Rn.mx (Rn.stN x (k + 1))) (b := ((n - 1 - k : Nat) : Int) + 1) (by omega)
    have r2 := Int.emod_lt_of_pos (Rn.mx (Rn.stN x (k + 1))) (b := ((n - 1 - k : Nat) : Int) + 1) (by omega)
    refine ⟨Rn.sg (n - 1 - k) (Rn.mx (Rn.stN x (k + 1)) % ((n - 1 - k : Nat) + 1)).toNat i, Rn.sg_lt (by omega) (by omega) hi, ?_⟩
    show Rn.swp (Rn.pS x n k) (n - 1 - k) (Rn.mx (Rn.stN x (k + 1)) % ((n - 1 - k : Nat) + 1)).toNat _ = _
    rw [Rn.swp_sg, sg_sg, e]
theorem cost_none {l : Vs} {x : Int} (h1 : 1 ≤ l.length) : ∀ q, q ≤ l.length → costTo (drawnV l l.length x) l q = 0
  | 0, _ => rfl
  | q + 1, hq => by
    rw [costTo, cost_none h1 q (by omega)]
    obtain ⟨i, hi, e⟩ := pS_sur x l.length (l.length - 1) (Nat.le_refl _) q (by omega)
    have h2 := nearTo_least (drawnV l l.length x) l[q]! ((drawnV l l.length x).length - 1) i (by rw [drawnV_len]; omega)
    rw [drawnV_get l x hi, e, Int.toNat_natCast, dst_self] at h2
    unfold nearP; omega
/-- What Cost is asked of Train's answer. -/
theorem train_cost {l : Vs} {k r : Int} (h : trainE l k r = 0) (x : Int) (q : Nat) : costE (roundsV l (drawnV l k.toNat x) q) l = 0 := by
  obtain ⟨h1, h2, h3, h4⟩ := trainE_zero.1 h
  obtain ⟨t1, t2, t3⟩ := train_ok h x q
  have e : (roundsV l (drawnV l k.toNat x) q)[0]!.length = l[0]!.length := (t1 0 (by omega)).1
  rw [costE_zero, e]
  exact ⟨⟨⟨by omega, by omega⟩, t2⟩, h2, h4⟩
end Go.Proofs.Ytgglofeliffgbaa
