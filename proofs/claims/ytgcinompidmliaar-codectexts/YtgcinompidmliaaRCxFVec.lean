/- theodolitekeep.Vectors, of rows that are not too long each: the sum. -/
import Derived.Test.YtgcinompidmliaaRCxIds
namespace Go.Proofs.YtgcinompidmliaaR
open Go.RowKit Go.Sort

/-- How many coordinates rows have in all. -/
def coords (rs : List Rw) : Nat := (rs.map fun r => r.2.length).sum
theorem coords_snoc {rs : List Rw} {q : Nat} (hq : q < rs.length) : coords (rs.take (q + 1)) = coords (rs.take q) + rs[q]!.2.length := by
  unfold coords
  rw [List.take_succ_eq_append_getElem hq, List.map_append, List.sum_append, getElem!_pos rs q hq]
  simp
theorem coords_le {rs : List Rw} (q : Nat) : coords (rs.take q) ≤ coords rs := by
  have h : coords rs = coords (rs.take q) + coords (rs.drop q) := by
    unfold coords
    rw [← List.sum_append, ← List.map_append, List.take_append_drop]
  omega
theorem coords_row {rs : List Rw} {i : Nat} (hi : i < rs.length) : rs[i]!.2.length ≤ coords rs := by
  have h1 := coords_snoc hi
  have h2 := coords_le (rs := rs) (i + 1)
  omega
set_option maxHeartbeats 1000000 in
set_option maxRecDepth 100000 in
theorem vects_b {w : World} {v : Value} {rs : List Rw} (h : RdW w v rs) (most : Nat) (hlen : rs.length ≤ 4611686018427387904) (hmost : most ≤ 4611686018427387903) (hrow : ∀ i, i < rs.length → rs[i]!.2.length ≤ 4611686018427387904) :
    Calls Try.prog 37 #[v, .int .i64 (most : Int)] w fun e w' => (∃ z : Int, e = .returned (.int .i64 z) ∧ (z ≤ (most : Int) → rs.length + coords rs ≤ most)) ∧ w = w' := by
  obtain ⟨a, cap, rfl, ha⟩ := h
  have A : Hid (∀ i, i < rs.length → ∃ b o u, a = some ⟨b, o, none⟩ ∧ w.cell? ⟨b, o + i * 2, none⟩ = some (.int .i64 rs[i]!.1) ∧ w.cell? ⟨b, o + i * 2 + 1, none⟩ = some u ∧ RdI w u rs[i]!.2) := ha
  obtain ⟨n, hN⟩ : ∃ n, n = rs.length := ⟨_, rfl⟩
  have N : Hid (n = rs.length) := hN
  have HS : Hid (∀ i, i < rs.length → rs[i]!.2.length ≤ 4611686018427387904) := hrow
  rw [← hN] at hlen ⊢
  clear ha hN hrow
  go_enter Try.func37, Try.ntmps37
  go_wp2
  go_loopw [5, 6] (fun zv iv w' => ∃ (q z : Nat), zv = .int .i64 (z : Int) ∧ iv = .int .i64 (q : Int) ∧ q ≤ n ∧ Hid (z = n + coords (rs.take q)) ∧ w = w') (fun _ iv _ => n - (intOf iv).toNat)
  case atStart => exact ⟨0, n, rfl, rfl, Nat.zero_le _, by unfold Hid; simp [coords], rfl⟩
  case round =>
    obtain ⟨q, z, rfl, rfl, hq, Z, rfl⟩ := hrel
    by_cases hqn : q < n
    · have hqi : (q : Int) < (n : Int) := by omega
      by_cases hz : (z : Int) ≤ (most : Int)
      · have hql : q < rs.length := by have := N.out; omega
        obtain ⟨b, o, u, ea, hc, hd, hr⟩ := A.out q hql
        obtain ⟨pu, cu, eu, _⟩ := hr
        subst ea; subst eu
        have hs := coords_snoc hql
        have hZ := Z.out
        have hS := HS.out q hql
        generalize rs[q]!.2.length = k at *
        generalize rs[q]!.1 = x at *
        obtain ⟨y, hy⟩ : ∃ y : Nat, y = z + k := ⟨_, rfl⟩
        have Y : Hid (y = n + coords (rs.take (q + 1))) := by unfold Hid; omega
        have hyb : y ≤ 9223372036854775807 := by omega
        have hyi : (z : Int) + (k : Int) = (y : Int) := by omega
        clear hql hs hZ hS hy Z
        go_wp2
        go_roundw
        case rel => exact ⟨q + 1, y, by first | rfl | go_num, by simp, hqn, Y, by first | rfl | trivial⟩
        case measure => simp [intOf]; omega
      · go_wp2
        go_ret
        exact ⟨⟨_, rfl, fun h => by omega⟩, by first | rfl | trivial⟩
    · have hqi : ¬ (q : Int) < (n : Int) := by omega
      have hZ := Z.out
      rw [List.take_of_length_le (by have := N.out; omega)] at hZ
      have F : Hid ((z : Int) ≤ (most : Int) → n + coords rs ≤ most) := fun h => by omega
      clear Z hZ
      go_wp2
      go_ret
      exact ⟨⟨_, rfl, F.out⟩, by first | rfl | trivial⟩
end Go.Proofs.YtgcinompidmliaaR
