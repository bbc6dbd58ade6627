/- PutChange. -/
import Derived.Test.YtpjoaefmpdjjnaaSx5
namespace Go.Proofs.Ytpjoaefmpdjjnaa
open Go.RowKit

theorem chE_zero {k id : Int} {v : List Int} (h : chE k id v = 0) : (1 ≤ id ∧ id ≤ 1000000000) ∧ (k = 1 ∧ chk v v.length = 0 ∧ 1 ≤ v.length ∧ v.length ≤ 64 ∨ k = 2 ∧ v = []) := by
  unfold chE at h
  split at h
  · omega
  split at h
  · omega
  refine ⟨by omega, ?_⟩
  split at h
  · rename_i hk
    refine .inl ⟨hk, h, ?_⟩
    unfold chk at h
    split at h
    · omega
    · omega
  · split at h
    · omega
    · exact .inr ⟨by omega, List.eq_nil_of_length_eq_zero (by omega)⟩
/-- What PutChange tells. -/
def pcV (k id : Int) (v : List Int) : Value := .tuple #[.string (sb (if chE k id v = 0 then chT k id v else [])), .int .i64 (chE k id v)]
end Go.Proofs.Ytpjoaefmpdjjnaa
