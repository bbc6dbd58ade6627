/- The reference's plus, as a contract. -/
import Derived.Test.YthgbhlbanepahaaNum
namespace Go.Proofs.Ythgbhlbanepahaa
open Go.RowKit

theorem Gr.store9 {a w : World} (h : Gr a w) {B : Nat} (hB : a.heap.size ≤ B) (x0 x1 x2 x3 x4 x5 x6 x7 x8 : Value) :
    Gr a ((((((((((w.setCell ⟨B, 0, none⟩ x0).setCell ⟨B, 1, none⟩ x1).setCell ⟨B, 2, none⟩ x2).setCell ⟨B, 3, none⟩ x3).setCell ⟨B, 4, none⟩ x4).setCell ⟨B, 5, none⟩ x5).setCell ⟨B, 6, none⟩ x6).setCell ⟨B, 7, none⟩ x7).setCell ⟨B, 8, none⟩ x8)) :=
  (((((((((h.setCell (p := ⟨B, 0, none⟩) hB x0).setCell (p := ⟨B, 1, none⟩) hB x1).setCell (p := ⟨B, 2, none⟩) hB x2).setCell (p := ⟨B, 3, none⟩) hB x3).setCell (p := ⟨B, 4, none⟩) hB x4).setCell (p := ⟨B, 5, none⟩) hB x5).setCell (p := ⟨B, 6, none⟩) hB x6).setCell (p := ⟨B, 7, none⟩) hB x7).setCell (p := ⟨B, 8, none⟩) hB x8)
theorem dd_nat (m k : Nat) : ∃ e : Nat, dd m k = (e : Int) ∧ e < 65536 ∧ e = m / 65536 ^ k % 65536 := ⟨_, rfl, Nat.mod_lt _ (by omega), rfl⟩
theorem pow_past (k : Nat) (h : 8 ≤ k) (c m : Nat) (hm : m < 340282366920938463463374607431768211456) (hc : 0 < c) :
    (m + c * 65536 ^ k) % 340282366920938463463374607431768211456 = m ∧ 340282366920938463463374607431768211456 ≤ m + c * 65536 ^ k := by
  obtain ⟨j, rfl⟩ : ∃ j, k = 8 + j := ⟨k - 8, by omega⟩
  have e : c * 65536 ^ (8 + j) = 340282366920938463463374607431768211456 * (c * 65536 ^ j) := by
    rw [Nat.pow_add, show (65536 : Nat) ^ 8 = 340282366920938463463374607431768211456 by decide, Nat.mul_left_comm]
  have hp : 0 < c * 65536 ^ j := Nat.mul_pos hc (Nat.pow_pos (by omega))
  rw [e]
  refine ⟨by rw [Nat.add_mul_mod_self_left]; exact Nat.mod_eq_of_lt hm, ?_⟩
  have : 340282366920938463463374607431768211456 * 1 ≤ 340282366920938463463374607431768211456 * (c * 65536 ^ j) := Nat.mul_le_mul_left _ hp
  omega

/-- What one round makes of the number. -/
theorem plus_round (m c k : Nat) (hm : m < 340282366920938463463374607431768211456) (hk : k < 8) :
    setD m k ((c + m / 65536 ^ k % 65536) % 65536) + (c + m / 65536 ^ k % 65536) / 65536 * 65536 ^ (k + 1) = m + c * 65536 ^ k := by
  obtain ⟨_, _, _, h⟩ := setD_spec m k ((c + m / 65536 ^ k % 65536) % 65536) hm hk (Nat.mod_lt _ (by omega))
  generalize m / 65536 ^ k % 65536 = e at *
  have h2 : (c + e) / 65536 * 65536 ^ (k + 1) + (c + e) % 65536 * 65536 ^ k = (c + e) * 65536 ^ k := by
    rw [Nat.pow_succ, ← Nat.mul_assoc, Nat.mul_right_comm, ← Nat.add_mul]
    congr 1; omega
  rw [Nat.add_mul] at h2
  omega

end Go.Proofs.Ythgbhlbanepahaa
