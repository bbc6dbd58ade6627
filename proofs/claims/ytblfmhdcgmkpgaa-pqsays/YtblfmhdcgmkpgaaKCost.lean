/- kmeans.Cost. -/
import Derived.Test.YtblfmhdcgmkpgaaKNear
namespace Go.Proofs.Ytblfmhdcgmkpgaa
open Go.RowKit

/-- What Cost answers. -/
def costE (cs l : Vs) : Int := if cenE cs = 0 then (if l.length ≤ 512 then vecsE l (cs[0]!.length : Int) else 2) else cenE cs
theorem costE_zero {cs l : Vs} : costE cs l = 0 ↔ ((1 ≤ cs.length ∧ cs.length ≤ 64) ∧ VsOk cs (cs[0]!.length : Int)) ∧ l.length ≤ 512 ∧ VsOk l (cs[0]!.length : Int) := by
  unfold costE
  split
  · rename_i h
    split
    · rename_i h2; rw [vecsE_zero]; exact ⟨fun e => ⟨cenE_zero.1 h, h2, e⟩, fun e => e.2.2⟩
    · rename_i h2; exact ⟨fun e => by simp at e, fun e => absurd e.2.1 h2⟩
  · rename_i h; exact ⟨fun e => absurd e h, fun e => absurd (cenE_zero.2 e.1) h⟩

end Go.Proofs.Ytblfmhdcgmkpgaa
