/- The law's total: how many hits some lists have, up to a bound. -/
import Derived.Test.YtfefojgncemohaaTogether
namespace Go.Proofs.Ytfefojgncemohaa
open Go.RowKit Go.Sort
attribute [local go_sem ↓] Go.wp_at_zero Go.wp_at_succ

set_option maxHeartbeats 2000000 in
set_option maxRecDepth 100000 in
theorem total_c {w : World} {v : Value} {ls : List (List Ht)} (hv' : RdL w v ls) (hl : ls.length ≤ 4611686018427387904) (hm : ∀ i, i < ls.length → ls[i]!.length ≤ 4611686018427387904) :
    Calls Try.prog 21 #[v] w fun e w' => (∃ N : Nat, e = .returned (.int .i64 (N : Int)) ∧ ((N ≤ 3000 ∧ N = ls.length + tot ls) ∨ (3000 < N ∧ 3000 < ls.length + tot ls))) ∧ w' = w := by
  obtain ⟨a, cap, rfl, ha⟩ := hv'
  have A : Hid ((∀ i, i < ls.length → ∃ b o u, a = some ⟨b, o, none⟩ ∧ w.cell? ⟨b, o + i, none⟩ = some u ∧ Rd w u ls[i]!) ∧ ∀ i, i < ls.length → ls[i]!.length ≤ 4611686018427387904) := ⟨ha, hm⟩
  obtain ⟨n, hN⟩ : ∃ n, n = ls.length := ⟨_, rfl⟩
  have N : Hid (n = ls.length) := hN
  rw [← hN] at hl ⊢
  clear ha hm hN
  go_enter Try.func21, Try.ntmps21
  go_wp2
  go_loopw [3, 4] (fun cv iv w' => ∃ r c : Nat, cv = .int .i64 (c : Int) ∧ iv = .int .i64 (r : Int) ∧ r ≤ n ∧ c ≤ 4611686018427390904 ∧ w = w' ∧ Hid (c = n + tot (ls.take r))) (fun _ iv _ => n - (intOf iv).toNat)
  case atStart => exact ⟨0, n, rfl, rfl, Nat.zero_le _, by omega, rfl, by simp [tot, Hid]⟩
  case round =>
    obtain ⟨r, c, rfl, rfl, hr, hc, rfl, X⟩ := hrel
    by_cases hrn : r < n
    · have hri : (r : Int) < (n : Int) := by omega
      by_cases hcs : c ≤ 3000
      · have hci : (c : Int) ≤ 3000 := by omega
        obtain ⟨b, o, u, ea, hcell, hrd⟩ := A.out.1 r (by have := N.out; omega)
        subst ea
        have HL : Hid (tot (ls.take (r + 1)) = tot (ls.take r) + ls[r]!.length ∧ ls[r]!.length ≤ 4611686018427387904) := ⟨tot_take_succ ls r (by have := N.out; omega), A.out.2 r (by have := N.out; omega)⟩
        obtain ⟨a1, c1, rfl⟩ := hrd.form'
        obtain ⟨m, hm⟩ : ∃ m, m = ls[r]!.length := ⟨_, rfl⟩
        rw [← hm] at hcell
        have M : Hid (m = ls[r]!.length) := hm
        have hmc : m ≤ 4611686018427387904 := by rw [hm]; exact HL.out.2
        clear hm hrd
        go_wp2
        go_roundw
        case rel =>
          have h1 := HL.out.1; have h2 := M.out; have h3 := X.out
          exact ⟨r + 1, c + m, by simp, by simp, hrn, by omega, by first | rfl | trivial, by unfold Hid; omega⟩
        case measure => simp [intOf]; omega
      · have hci : ¬ (c : Int) ≤ 3000 := by omega
        have hb : Hid (3000 < c ∧ 3000 < n + tot ls) := ⟨by omega, by have h1 := X.out; have h2 := tot_take_le ls r; omega⟩
        clear hcs
        go_wp2
        go_ret
        exact ⟨⟨c, rfl, .inr (by have := hb.out; have := N.out; omega)⟩, by first | rfl | trivial⟩
    · have hri : ¬ (r : Int) < (n : Int) := by omega
      have hb : Hid (c = n + tot ls) := by
        have h1 := X.out
        rw [List.take_of_length_le (by have := N.out; omega)] at h1
        exact h1
      clear hrn
      go_wp2
      go_ret
      refine ⟨⟨c, rfl, ?_⟩, by first | rfl | trivial⟩
      have := hb.out; have := N.out; omega
end Go.Proofs.Ytfefojgncemohaa
