/- The reference's Id, ids and form. -/
import Derived.Test.YtbkjelbnbgcbbaaCkR
import Derived.Test.YtbkjelbnbgcbbaaRefV
namespace Go.Proofs.Ytbkjelbnbgcbbaa
open Go.RowKit

theorem rid_c (x : Int) (w : World) : Calls Try.prog 38 #[.int .i64 x] w fun e w' => e = .returned (.bool (okId x)) ∧ w = w' := by
  by_cases h : 1 ≤ x
  · by_cases h2 : x ≤ 1000000000
    · have E : Hid (okId x = true) := (okId_iff x).2 ⟨h, h2⟩
      go_enter Try.func38, Try.ntmps38
      go_wp2
      go_ret
      exact ⟨by rw [E.out]; rfl, rfl⟩
    · have E : Hid (okId x = false) := by unfold Hid; rw [← Bool.not_eq_true, okId_iff]; omega
      go_enter Try.func38, Try.ntmps38
      go_wp2
      go_ret
      exact ⟨by rw [E.out]; rfl, rfl⟩
  · have E : Hid (okId x = false) := by unfold Hid; rw [← Bool.not_eq_true, okId_iff]; omega
    go_enter Try.func38, Try.ntmps38
    go_wp2
    go_ret
    exact ⟨by rw [E.out]; rfl, rfl⟩
theorem rid_v (x : Int) (b : Bool) (h : okId x = b) (w : World) : Calls Try.prog 38 #[.int .i64 x] w fun e w' => e = .returned (.bool b) ∧ w = w' := by
  subst h; exact rid_c x w

end Go.Proofs.Ytbkjelbnbgcbbaa
