/- The law's big. -/
import Derived.Test.YteaeaoekaoedoaaFSearch
import Derived.Test.YteaeaoekaoedoaaVects
namespace Go.Proofs.Yteaeaoekaoedoaa
open Go.RowKit Go.Sort

set_option maxHeartbeats 1000000 in
theorem big_c {w : World} {v u : Value} {rs : List Rw} {q : List Int} (hv : RdW w v rs) (hu : RdI w u q) (hlen : rs.length ≤ 9223372036854775807) :
    Calls Try.prog 5 #[v, u] w fun e w' => ∃ b, e = .returned (.bool b) ∧ (b = false → rs.length ≤ 2000 ∧ q.length ≤ 65536) ∧ w = w' := by
  have c := vects_c hv 65536 hlen
  obtain ⟨av, cv, rfl, _⟩ := hv
  obtain ⟨au, cu, rfl, _⟩ := hu
  generalize rs.length = n at *
  generalize q.length = m at *
  go_enter Try.func5, Try.ntmps5
  go_wp2_with fail
  refine c.mono ?_
  rintro e w' ⟨⟨z, rfl⟩, e2⟩
  subst e2
  clear c
  by_cases h1 : 65536 < z
  · go_wp2
    go_ret
    exact ⟨true, rfl, fun e => absurd e (by decide), rfl⟩
  · by_cases h2 : 2000 < (n : Int)
    · go_wp2
      go_ret
      exact ⟨true, rfl, fun e => absurd e (by decide), rfl⟩
    · by_cases h3 : 65536 < (m : Int)
      · go_wp2
        go_ret
        exact ⟨true, rfl, fun e => absurd e (by decide), rfl⟩
      · go_wp2
        go_ret
        exact ⟨false, by simp [h1, h2, h3], fun _ => ⟨by omega, by omega⟩, rfl⟩
end Go.Proofs.Yteaeaoekaoedoaa
