/- Two numbers of two words held against each other. -/
import Derived.Test.YtblfmhdcgmkpgaaDist
namespace Go.Proofs.Ytblfmhdcgmkpgaa
open Go.RowKit

theorem wd_run (a b c d : Int) (W : World) : (binOp .eql 51 (.agg #[.int .u64 a, .int .u64 b]) (.agg #[.int .u64 c, .int .u64 d])).run Try.prog W = .ok (.bool (a == c && b == d)) W := by
  have u24 := Try.underlying23
  have a24 := Try.isAgg23
  have z24 := Try.sizeOf23
  have hS : Try.prog.underlying 51 = some (.struct (Try.prog.fieldsOf 51)) := by kernel_rfl
  have hp : Try.prog.stoodInHeld 51 = false := by kernel_rfl
  have h : (Op.equalIn 10000 51 (.agg #[.int .u64 a, .int .u64 b]) (.agg #[.int .u64 c, .int .u64 d])).run Try.prog W = .ok (a == c && b == d) W := by
    rw [show (10000 : Nat) = 9999 + 1 from rfl, run_equalIn_agg W 9999 51 _ _ hS hp]
    simp only [Program.fieldsOf, Try.underlying51]
    go_simp
    by_cases h1 : a = c <;> by_cases h2 : b = d <;> simp [h1, h2]
  rw [run_eql_struct, h]; rfl
theorem wd_inj {a b : Nat} (h : hi a = hi b) (k : lo a = lo b) : a = b := by unfold hi at h; unfold lo at k; omega
theorem wd_eq (a b : Nat) (W : World) : (binOp .eql 51 (Wd a) (Wd b)).run Try.prog W = .ok (.bool (decide (a = b))) W := by
  rw [wd_run]
  have : (hi a == hi b && lo a == lo b) = decide (a = b) := by
    by_cases h : a = b
    · subst h; simp
    · rw [decide_eq_false h, Bool.and_eq_false_iff, beq_eq_false_iff_ne, beq_eq_false_iff_ne]
      by_cases h1 : hi a = hi b
      · right; intro h2; exact h (wd_inj h1 h2)
      · exact .inl h1
  rw [this]
theorem wd_eq0 (a : Nat) (r : Bool) (h : decide (a = 0) = r) (W : World) : (binOp .eql 51 (.agg #[.int .u64 (hi a), .int .u64 (lo a)]) (.agg #[.int .u64 0, .int .u64 0])).run Try.prog W = .ok (.bool r) W := by
  subst h; exact wd_eq a 0 W
theorem wd_same (a b : Int) (W : World) : (binOp .eql 51 (.agg #[.int .u64 a, .int .u64 b]) (.agg #[.int .u64 a, .int .u64 b])).run Try.prog W = .ok (.bool true) W := by
  rw [wd_run]; simp
end Go.Proofs.Ytblfmhdcgmkpgaa
