/- PqNil: the walk. -/
import Derived.Test.YtblfmhdcgmkpgaaPAwake
namespace Go.Proofs.Ytblfmhdcgmkpgaa
open Go.RowKit Go.Maps

set_option maxHeartbeats 400000 in
theorem books_nil (w : World) : Calls Try.prog 14 #[.pointer none] w fun e w' => e = .returned (.slice none 0 0) ∧ w = w' := by
  go_enter Try.func14, Try.ntmps14
  go_wp2
  go_ret
  exact ⟨rfl, rfl⟩
set_option maxHeartbeats 1000000 in
theorem nil_law {w : World} {v : Value} {x : List Int} (hv : RdI w v x) : Calls Try.prog 8 #[v] w fun e w' => e = .returned (.bool true) ∧ Gb w w' := by
  obtain ⟨a, cap, rfl, _⟩ := hv
  generalize x.length = n
  by_cases hn : 32768 < n
  · go_enter Try.func8, Try.ntmps8
    go_wp2
    go_ret
    exact ⟨rfl, Below.refl _ _⟩
  · have hn' : n ≤ 32768 := by omega
    clear hn
    go_enter Try.func8, Try.ntmps8
    go_wp2_with fail
    go_fit (encode_nil w a n cap)
    rintro e w1 ⟨rfl, e1⟩
    subst e1
    go_wp2_with fail
    go_fit (decode_nil w a n cap)
    rintro e w1 ⟨rfl, e1⟩
    subst e1
    go_wp2_with fail
    go_fit (table_nil w a n cap)
    rintro e w1 ⟨rfl, e1⟩
    subst e1
    go_wp2_with (first
      | (go_at_call 12; refine (awake_c _).mono ?_; rintro e w2 ⟨rfl, g2⟩)
      | (go_at_call 14; refine (books_nil _).mono ?_; rintro e w3 ⟨rfl, e3⟩; subst e3))
    go_ret
    exact ⟨rfl, g2⟩
end Go.Proofs.Ytblfmhdcgmkpgaa
