/- theodoliteref03: Check, Square, Sum, Far, Dist, as contracts. -/
import Derived.Test.YtblfmhdcgmkpgaaDist
import Derived.Deep.RegionHeld3
namespace Go.Proofs.Ytblfmhdcgmkpgaa
open Go.RowKit

set_option maxHeartbeats 1000000 in
theorem rcheck_no {w : World} {v : Value} {l : List Int} (h : RdI w v l) (d : Int) (hn : ¬ (1 ≤ d ∧ d ≤ 64 ∧ (l.length : Int) = d)) :
    Calls Try.prog 29 #[v, .int .i64 d] w fun e w' => e = .returned (.int .i64 30) ∧ w = w' := by
  obtain ⟨a, cap, rfl, ha⟩ := h
  clear ha
  generalize l.length = n at *
  by_cases h1 : d < 1
  · clear hn
    go_enter Try.func29, Try.ntmps29
    go_wp2
    go_ret
    exact ⟨rfl, rfl⟩
  by_cases h2 : d > 64
  · clear hn
    go_enter Try.func29, Try.ntmps29
    go_wp2
    go_ret
    exact ⟨rfl, rfl⟩
  · have h3 : ((n : Int) == d) = false := by rw [beq_eq_false_iff_ne]; omega
    have h4 : ¬ (n : Int) = d := by omega
    clear hn
    go_enter Try.func29, Try.ntmps29
    go_wp2
    go_ret
    exact ⟨rfl, rfl⟩

set_option maxHeartbeats 2000000 in
set_option maxRecDepth 100000 in
theorem rcheck_in {w : World} {v : Value} {l : List Int} (h : RdI w v l) (hn : 1 ≤ l.length ∧ l.length ≤ 64) :
    Calls Try.prog 29 #[v, .int .i64 (l.length : Int)] w fun e w' => e = .returned (.int .i64 (vErr l)) ∧ w = w' := by
  obtain ⟨a, cap, rfl, ha⟩ := h
  have A : Hid (∀ i, i < l.length → ∃ b o, a = some ⟨b, o, none⟩ ∧ w.cell? ⟨b, o + i, none⟩ = some (.int .i64 l[i]!)) := ha
  obtain ⟨n, hN⟩ : ∃ n, n = l.length := ⟨_, rfl⟩
  have N : Hid (n = l.length) := hN
  rw [← hN] at hn ⊢
  obtain ⟨hn1, hn2⟩ := hn
  have hn3 : ¬ (n : Int) < 1 := by omega
  have hn4 : ¬ (n : Int) > 64 := by omega
  clear ha hN
  go_enter Try.func29, Try.ntmps29
  go_wp2
  go_loopw [5] (fun iv w' => ∃ q : Nat, iv = .int .i64 (q : Int) ∧ q ≤ n ∧ w = w' ∧ Hid (allR (l.take q) = true)) (fun iv _ => n - (intOf iv).toNat)
  case atStart => exact ⟨0, rfl, Nat.zero_le _, rfl, by simp [Hid, allR]⟩
  case round =>
    obtain ⟨q, rfl, hq, rfl, X⟩ := hrel
    by_cases hqn : q < n
    · have hqi : (q : Int) < (n : Int) := by omega
      obtain ⟨b, o, ea, hc⟩ := A.out q (by have := N.out; omega)
      subst ea
      obtain ⟨x, hx⟩ : ∃ x, x = l[q]! := ⟨_, rfl⟩
      rw [← hx] at hc
      have XX : Hid (x = l[q]! ∧ q < l.length) := ⟨hx, by have := N.out; omega⟩
      clear hx
      by_cases h1 : x < -2147483647
      · have R : Hid (vErr l = 31) := by unfold Hid vErr; rw [allR_no XX.out.2 (by rw [← XX.out.1, ← Bool.not_eq_true, inR_iff]; omega)]; rfl
        go_wp2
        go_ret
        exact ⟨by rw [R.out]; rfl, by first | rfl | trivial⟩
      by_cases h2 : x > 2147483647
      · have R : Hid (vErr l = 31) := by unfold Hid vErr; rw [allR_no XX.out.2 (by rw [← XX.out.1, ← Bool.not_eq_true, inR_iff]; omega)]; rfl
        go_wp2
        go_ret
        exact ⟨by rw [R.out]; rfl, by first | rfl | trivial⟩
      · have R : Hid (allR (l.take (q + 1)) = true) := allR_take XX.out.2 X.out (by rw [← XX.out.1, inR_iff]; omega)
        go_wp2
        go_roundw
        case rel => exact ⟨q + 1, by simp, hqn, by first | rfl | trivial, R⟩
        case measure => simp [intOf]; omega
    · have hqi : ¬ (q : Int) < (n : Int) := by omega
      have R : Hid (vErr l = 0) := by
        have := X.out
        rw [List.take_of_length_le (by have := N.out; omega)] at this
        unfold Hid vErr; rw [this]; rfl
      go_wp2
      go_ret
      exact ⟨by rw [R.out]; rfl, by first | rfl | trivial⟩
theorem rcheck_c {w : World} {v : Value} {l : List Int} (h : RdI w v l) (d : Int) :
    Calls Try.prog 29 #[v, .int .i64 d] w fun e w' => e = .returned (.int .i64 (chk l d)) ∧ w = w' := by
  unfold chk
  by_cases hn : 1 ≤ d ∧ d ≤ 64 ∧ (l.length : Int) = d
  · rw [if_pos hn]
    obtain ⟨h1, h2, rfl⟩ := hn
    exact rcheck_in h (by omega)
  · rw [if_neg hn]
    exact rcheck_no h d hn
theorem rcheck_v {w : World} {v : Value} {l : List Int} (h : RdI w v l) (d r : Int) (hr : chk l d = r) :
    Calls Try.prog 29 #[v, .int .i64 d] w fun e w' => e = .returned (.int .i64 r) ∧ w = w' := by
  subst hr; exact rcheck_c h d

set_option maxHeartbeats 1000000 in
theorem square_nn (k : Nat) (hk : k ≤ 4294967294) (w : World) : Calls Try.prog 56 #[.int .i64 (k : Int)] w fun e w' => e = .returned (Wd (k * k)) ∧ Gr w w' := by
  have hp := sq_small k hk
  have e1 : hi (k * k) = 0 := by unfold hi; omega
  have e2 : lo (k * k) = ((k * k : Nat) : Int) := by unfold lo; omega
  have p : (k : Int) * (k : Int) = ((k * k : Nat) : Int) := (Int.natCast_mul _ _).symm
  unfold Wd
  rw [e1, e2]
  clear e1 e2
  generalize k * k = kk at *
  have h0 : ¬ (k : Int) < 0 := by omega
  go_enter Try.func56, Try.ntmps56
  go_wp2
  exact bodyPost_ret (v := .agg #[.int .u64 0, .int .u64 (kk : Int)]) (by simp [results, Try.results56, go_sem]) rfl ⟨rfl, (Gr.refl _).alloc _ _⟩
set_option maxHeartbeats 1000000 in
theorem square_ng (k : Nat) (hk : k ≤ 4294967294) (h1 : 1 ≤ k) (w : World) : Calls Try.prog 56 #[.int .i64 (-(k : Int))] w fun e w' => e = .returned (Wd (k * k)) ∧ Gr w w' := by
  have hp := sq_small k hk
  have e1 : hi (k * k) = 0 := by unfold hi; omega
  have e2 : lo (k * k) = ((k * k : Nat) : Int) := by unfold lo; omega
  have p : (k : Int) * (k : Int) = ((k * k : Nat) : Int) := (Int.natCast_mul _ _).symm
  unfold Wd
  rw [e1, e2]
  clear e1 e2
  generalize k * k = kk at *
  have h0 : -(k : Int) < 0 := by omega
  have h2 : - -(k : Int) = (k : Int) := by omega
  go_enter Try.func56, Try.ntmps56
  go_wp2
  exact bodyPost_ret (v := .agg #[.int .u64 0, .int .u64 (kk : Int)]) (by simp [results, Try.results56, go_sem]) rfl ⟨rfl, (Gr.refl _).alloc _ _⟩
theorem square_c (n : Int) (k : Nat) (h : n.natAbs = k) (hk : k ≤ 4294967294) (w : World) : Calls Try.prog 56 #[.int .i64 n] w fun e w' => e = .returned (Wd (k * k)) ∧ Gr w w' := by
  by_cases h0 : 0 ≤ n
  · obtain rfl : n = (k : Int) := by omega
    exact square_nn k hk w
  · obtain rfl : n = -(k : Int) := by omega
    exact square_ng k hk (by omega) w

set_option maxHeartbeats 1000000 in
theorem rsum_no (a0 a1 b0 b1 : Int) (h0 : 0 ≤ a0) (h1 : 0 ≤ a1) (h2 : 0 ≤ b0) (h3 : 0 ≤ b1) (h4 : a0 + b0 < 18446744073709551616) (h5 : a1 + b1 < 18446744073709551616) (w : World) :
    Calls Try.prog 55 #[.agg #[.int .u64 a0, .int .u64 a1], .agg #[.int .u64 b0, .int .u64 b1]] w fun e w' => e = .returned (.agg #[.int .u64 (a0 + b0), .int .u64 (a1 + b1)]) ∧ Gr w w' := by
  have k : ¬ (a1 + b1 < a1) := by omega
  go_enter Try.func55, Try.ntmps55
  go_wp2
  exact bodyPost_ret (v := .agg #[.int .u64 (a0 + b0), .int .u64 (a1 + b1)]) (by simp [results, Try.results55, go_sem]) rfl ⟨rfl, by repeat (first | exact Gr.refl _ | refine Gr.alloc ?_ _ _ | refine Gr.setCell ?_ (by simp) _)⟩
set_option maxHeartbeats 1000000 in
theorem rsum_yes (a0 a1 b0 b1 : Int) (h0 : 0 ≤ a0) (h1 : 0 ≤ a1) (h2 : 0 ≤ b0) (h3 : 0 ≤ b1) (a1' : a1 < 18446744073709551616) (b1' : b1 < 18446744073709551616) (h4 : a0 + b0 + 1 < 18446744073709551616) (h5 : 18446744073709551616 ≤ a1 + b1) (w : World) :
    Calls Try.prog 55 #[.agg #[.int .u64 a0, .int .u64 a1], .agg #[.int .u64 b0, .int .u64 b1]] w fun e w' => e = .returned (.agg #[.int .u64 (a0 + b0 + 1), .int .u64 (a1 + b1 - 18446744073709551616)]) ∧ Gr w w' := by
  obtain ⟨r, hr⟩ : ∃ r, r = a1 + b1 - 18446744073709551616 := ⟨_, rfl⟩
  have hw : IntKind.u64.wrap (a1 + b1) = r := by rw [IntKind.wrap_u64]; omega
  have k : r < a1 := by omega
  have k0 : 0 ≤ r := by omega
  obtain ⟨s, hs⟩ : ∃ s, s = a0 + b0 := ⟨_, rfl⟩
  have hw2 : IntKind.u64.wrap (a0 + b0) = s := by rw [IntKind.wrap_u64]; omega
  have s0 : 0 ≤ s := by omega
  have s1 : s + 1 < 18446744073709551616 := by omega
  rw [← hr, ← hs]
  clear hr hs h4 h5 h0 h2
  go_enter Try.func55, Try.ntmps55
  go_wp2
  exact bodyPost_ret (v := .agg #[.int .u64 (s + 1), .int .u64 r]) (by simp [results, Try.results55, go_sem]) rfl ⟨rfl, by repeat (first | exact Gr.refl _ | refine Gr.alloc ?_ _ _ | refine Gr.setCell ?_ (by simp) _)⟩
theorem rsum_c (s t : Nat) (h : s + t < 340282366920938463463374607431768211456) (w : World) : Calls Try.prog 55 #[Wd s, Wd t] w fun e w' => e = .returned (Wd (s + t)) ∧ Gr w w' := by
  have hb := hi_bd h
  by_cases hc : lo s + lo t < 18446744073709551616
  · have e1 : hi s + hi t = hi (s + t) := by unfold hi lo at *; omega
    have e2 : lo s + lo t = lo (s + t) := by unfold lo at *; omega
    have := rsum_no (hi s) (lo s) (hi t) (lo t) (hi_nn s) (lo_bd s).1 (hi_nn t) (lo_bd t).1 (by omega) hc w
    rw [e1, e2] at this; exact this
  · have e1 : hi s + hi t + 1 = hi (s + t) := by unfold hi lo at *; omega
    have e2 : lo s + lo t - 18446744073709551616 = lo (s + t) := by unfold lo at *; omega
    have := rsum_yes (hi s) (lo s) (hi t) (lo t) (hi_nn s) (lo_bd s).1 (hi_nn t) (lo_bd t).1 (lo_bd s).2 (lo_bd t).2 (by omega) (by omega) w
    rw [e1, e2] at this; exact this
end Go.Proofs.Ytblfmhdcgmkpgaa
