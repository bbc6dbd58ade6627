import Derived.Test.YtmlincnmhjkjgaaCyReg
import Derived.Test.YtmlincnmhjkjgaaCyRefV
import Derived.Test.YtmlincnmhjkjgaaCy3
import Derived.Deep.RegionHeld3
/- Roots; vec.ballBound. -/
namespace Go.Proofs.Ytmlincnmhjkjgaa
open Go.RowKit

/-- The greatest number up to n whose square is not above a. -/
def rtTo (a : Nat) : Nat → Nat
  | 0 => 0
  | n + 1 => if (n + 1) * (n + 1) ≤ a then n + 1 else rtTo a n
def rt (a : Nat) : Nat := rtTo a a
theorem rtTo_is (a : Nat) : ∀ n, a < (n + 1) * (n + 1) → IsRoot a (rtTo a n)
  | 0, h => ⟨Nat.zero_le _, by simpa [rtTo] using h⟩
  | n + 1, h => by
    unfold rtTo
    split
    · rename_i h1; exact ⟨h1, h⟩
    · rename_i h1; exact rtTo_is a n (by omega)
theorem rt_is (a : Nat) : IsRoot a (rt a) := rtTo_is a a (by
  have : (a + 1) * 1 ≤ (a + 1) * (a + 1) := Nat.mul_le_mul_left _ (by omega)
  omega)
theorem root_le {a r s : Nat} (h1 : IsRoot a r) (h2 : IsRoot a s) : s ≤ r := by
  apply Nat.le_of_not_lt; intro hc
  have := sq_le (show r + 1 ≤ s by omega)
  have := h1.2; have := h2.1; omega
theorem root_one {a r : Nat} (h : IsRoot a r) : r = rt a := Nat.le_antisymm (root_le (rt_is a) h) (root_le h (rt_is a))
theorem rt_lt {a : Nat} (ha : a < 340282366920938463463374607431768211456) : rt a < 18446744073709551616 := by
  apply Nat.lt_of_not_le; intro hc
  have := sq_le hc
  have := (rt_is a).1; omega
/-- The least number whose square is not below R. -/
def rup (R : Nat) : Nat := if rt R * rt R = R then rt R else rt R + 1
/-- The bound of a ball: a the distance from its centre. -/
def ballV (a R : Nat) : Nat := if rt a ≤ rt R then 0 else (rt a - rup R) * (rt a - rup R)

theorem wd_ne (a b : Nat) (r : Bool) (h : (!decide (a = b)) = r) (W : World) : (binOp .neq 69 (.agg #[.int .u64 (hi a), .int .u64 (lo a)]) (.agg #[.int .u64 (hi b), .int .u64 (lo b)])).run Try.prog W = .ok (.bool r) W := by
  subst h
  have h1 := wd_eq a b W
  rw [run_eql_struct] at h1
  rw [run_neq_struct]
  revert h1
  generalize (Op.equalIn 10000 69 (Wd a) (Wd b)).run Try.prog W = x
  intro h1
  cases x with
  | ok v w' =>
    simp only [Result.andThen] at h1 ⊢
    injection h1 with h2 h3
    injection h2 with h4
    rw [h3, h4]
  | _ => simp [Result.andThen] at h1

end Go.Proofs.Ytmlincnmhjkjgaa

/- theodoliteref03.Far. -/
namespace Go.Proofs.Ytmlincnmhjkjgaa
open Go.RowKit

theorem set2_far' {W : World} {b : Nat} {p : Addr} {v : Value} (hb : b ≠ p.block) (h : W.cell? p = some v) (x y : Value) : ((W.setCell ⟨b, 0, none⟩ x).setCell ⟨b, 1, none⟩ y).cell? p = some v := by
  rw [World.cell?_setCell_far _ _ _ _ hb, World.cell?_setCell_far _ _ _ _ hb]; exact h
theorem two_set {W : World} {b b1 b2 o1 o2 : Nat} {v0 v1 : Value} (h1 : b ≠ b1) (h2 : b ≠ b2) (h : W.cell? ⟨b1, o1, none⟩ = some v0 ∧ W.cell? ⟨b2, o2, none⟩ = some v1) (x y : Value) :
    ((W.setCell ⟨b, 0, none⟩ x).setCell ⟨b, 1, none⟩ y).cell? ⟨b1, o1, none⟩ = some v0 ∧ ((W.setCell ⟨b, 0, none⟩ x).setCell ⟨b, 1, none⟩ y).cell? ⟨b2, o2, none⟩ = some v1 := ⟨set2_far' h1 h.1 x y, set2_far' h2 h.2 x y⟩
theorem gap_nat (x y : Int) : (x - y).natAbs = gap x x y := by unfold gap; split <;> (try split) <;> omega

end Go.Proofs.Ytmlincnmhjkjgaa
