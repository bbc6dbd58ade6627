/- theodolitekeep.Vectors: it tells some number. -/
import Derived.Test.YteaeaoekaoedoaaGreatIds
namespace Go.Proofs.YteaeaoekaoedoaaGreat
open Go.RowKit Go.Sort
set_option maxHeartbeats 2000000 in
set_option maxRecDepth 100000 in
theorem vects_c {w : World} {v : Value} {rs : List Rw} (h : RdW w v rs) (most : Int) (hlen : rs.length ≤ 9223372036854775807) :
    Calls Tryz.prog 28 #[v, .int .i64 most] w fun e w' => (∃ z : Int, e = .returned (.int .i64 z)) ∧ w = w' := by
  obtain ⟨a, cap, rfl, ha⟩ := h
  have A : Hid (∀ i, i < rs.length → ∃ b o u, a = some ⟨b, o, none⟩ ∧ w.cell? ⟨b, o + i * 2, none⟩ = some (.int .i64 rs[i]!.1) ∧ w.cell? ⟨b, o + i * 2 + 1, none⟩ = some u ∧ RdI w u rs[i]!.2) := ha
  obtain ⟨n, hN⟩ : ∃ n, n = rs.length := ⟨_, rfl⟩
  have N : Hid (n = rs.length) := hN
  rw [← hN] at hlen ⊢
  clear ha hN
  go_enter Tryz.func28, Tryz.ntmps28
  go_wp2
  go_loopw [5, 6] (fun zv iv w' => ∃ (q : Nat) (z : Int), zv = .int .i64 z ∧ iv = .int .i64 (q : Int) ∧ q ≤ n ∧ w = w') (fun _ iv _ => n - (intOf iv).toNat)
  case atStart => exact ⟨0, n, rfl, rfl, Nat.zero_le _, rfl⟩
  case round =>
    obtain ⟨q, z, rfl, rfl, hq, rfl⟩ := hrel
    by_cases hqn : q < n
    · have hqi : (q : Int) < (n : Int) := by omega
      by_cases hz : z ≤ most
      · have hql : q < rs.length := by have := N.out; omega
        obtain ⟨b, o, u, ea, hc, hd, hr⟩ := A.out q hql
        obtain ⟨pu, cu, eu, _⟩ := hr
        subst ea; subst eu
        generalize rs[q]!.2.length = k at *
        generalize rs[q]!.1 = x at *
        clear hql
        go_wp2
        go_roundw
        case rel => exact ⟨q + 1, _, rfl, by simp, hqn, by first | rfl | trivial⟩
        case measure => simp [intOf]; omega
      · go_wp2
        go_ret
        exact ⟨⟨_, rfl⟩, by first | rfl | trivial⟩
    · have hqi : ¬ (q : Int) < (n : Int) := by omega
      go_wp2
      go_ret
      exact ⟨⟨_, rfl⟩, by first | rfl | trivial⟩
end Go.Proofs.YteaeaoekaoedoaaGreat
