/- theodoliteref03: Check, Square, Sum, Far, Dist, as contracts. -/
import Derived.Test.YtmlincnmhjkjgaaCy3
import Derived.Deep.RegionHeld3
namespace Go.Proofs.Ytmlincnmhjkjgaa
open Go.RowKit

set_option maxHeartbeats 1000000 in
theorem rcheck_no {w : World} {v : Value} {l : List Int} (h : RdI w v l) (d : Int) (hn : ¬ (1 ≤ d ∧ d ≤ 64 ∧ (l.length : Int) = d)) :
    Calls Try.prog 31 #[v, .int .i64 d] w fun e w' => e = .returned (.int .i64 30) ∧ w = w' := by
  obtain ⟨a, cap, rfl, ha⟩ := h
  clear ha
  generalize l.length = n at *
  by_cases h1 : d < 1
  · clear hn
    go_enter Try.func31, Try.ntmps31
    go_wp2
    go_ret
    exact ⟨rfl, rfl⟩
  by_cases h2 : d > 64
  · clear hn
    go_enter Try.func31, Try.ntmps31
    go_wp2
    go_ret
    exact ⟨rfl, rfl⟩
  · have h3 : ((n : Int) == d) = false := by rw [beq_eq_false_iff_ne]; omega
    have h4 : ¬ (n : Int) = d := by omega
    clear hn
    go_enter Try.func31, Try.ntmps31
    go_wp2
    go_ret
    exact ⟨rfl, rfl⟩

set_option maxHeartbeats 2000000 in
set_option maxRecDepth 100000 in
theorem rcheck_in {w : World} {v : Value} {l : List Int} (h : RdI w v l) (hn : 1 ≤ l.length ∧ l.length ≤ 64) :
    Calls Try.prog 31 #[v, .int .i64 (l.length : Int)] w fun e w' => e = .returned (.int .i64 (vErr l)) ∧ w = w' := by
  obtain ⟨a, cap, rfl, ha⟩ := h
  have A : Hid (∀ i, i < l.length → ∃ b o, a = some ⟨b, o, none⟩ ∧ w.cell? ⟨b, o + i, none⟩ = some (.int .i64 l[i]!)) := ha
  obtain ⟨n, hN⟩ : ∃ n, n = l.length := ⟨_, rfl⟩
  have N : Hid (n = l.length) := hN
  rw [← hN] at hn ⊢
  obtain ⟨hn1, hn2⟩ := hn
  have hn3 : ¬ (n : Int) < 1 := by omega
  have hn4 : ¬ (n : Int) > 64 := by omega
  clear ha hN
  go_enter Try.func31, Try.ntmps31
  go_wp2
  go_loopw [5] (fun iv w' => ∃ q : Nat, iv = .int .i64 (q : Int) ∧ q ≤ n ∧ w = w' ∧ Hid (allR (l.take q) = true)) (fun iv _ => n - (intOf iv).toNat)
  case atStart => exact ⟨0, rfl, Nat.zero_le _, rfl, by simp [Hid, allR]⟩
  case round =>
    obtain ⟨q, rfl, hq, rfl, X⟩ := hrel
    by_cases hqn : q < n
    · have hqi : (q : Int) < (n : Int) := by omega
      obtain ⟨b, o, ea, hc⟩ := A.out q (by have := N.out; omega)
      subst ea
      obtain ⟨x, hx⟩ : ∃ x, x = l[q]! := ⟨_, rfl⟩
      rw [← hx] at hc
      have XX : Hid (x = l[q]! ∧ q < l.length) := ⟨hx, by have := N.out; omega⟩
      clear hx
      by_cases h1 : x < -2147483647
      · have R : Hid (vErr l = 31) := by unfold Hid vErr; rw [allR_no XX.out.2 (by rw [← XX.out.1, ← Bool.not_eq_true, inR_iff]; omega)]; rfl
        go_wp2
        go_ret
        exact ⟨by rw [R.out]; rfl, by first | rfl | trivial⟩
      by_cases h2 : x > 2147483647
      · have R : Hid (vErr l = 31) := by unfold Hid vErr; rw [allR_no XX.out.2 (by rw [← XX.out.1, ← Bool.not_eq_true, inR_iff]; omega)]; rfl
        go_wp2
        go_ret
        exact ⟨by rw [R.out]; rfl, by first | rfl | trivial⟩
      · have R : Hid (allR (l.take (q + 1)) = true) := allR_take XX.out.2 X.out (by rw [← XX.out.1, inR_iff]; omega)
        go_wp2
        go_roundw
        case rel => exact ⟨q + 1, by simp, hqn, by first | rfl | trivial, R⟩
        case measure => simp [intOf]; omega
    · have hqi : ¬ (q : Int) < (n : Int) := by omega
      have R : Hid (vErr l = 0) := by
        have := X.out
        rw [List.take_of_length_le (by have := N.out; omega)] at this
        unfold Hid vErr; rw [this]; rfl
      go_wp2
      go_ret
      exact ⟨by rw [R.out]; rfl, by first | rfl | trivial⟩
theorem rcheck_c {w : World} {v : Value} {l : List Int} (h : RdI w v l) (d : Int) :
    Calls Try.prog 31 #[v, .int .i64 d] w fun e w' => e = .returned (.int .i64 (chk l d)) ∧ w = w' := by
  unfold chk
  by_cases hn : 1 ≤ d ∧ d ≤ 64 ∧ (l.length : Int) = d
  · rw [if_pos hn]
    obtain ⟨h1, h2, rfl⟩ := hn
    exact rcheck_in h (by omega)
  · rw [if_neg hn]
    exact rcheck_no h d hn
theorem rcheck_v {w : World} {v : Value} {l : List Int} (h : RdI w v l) (d r : Int) (hr : chk l d = r) :
    Calls Try.prog 31 #[v, .int .i64 d] w fun e w' => e = .returned (.int .i64 r) ∧ w = w' := by
  subst hr; exact rcheck_c h d

end Go.Proofs.Ytmlincnmhjkjgaa
