/- Vectors that are read; kmeans.checkAll, checkTraining, checkCentres. -/
import Derived.Test.YtblfmhdcgmkpgaaKMath
import Derived.Test.YtblfmhdcgmkpgaaOwnI
namespace Go.Proofs.Ytblfmhdcgmkpgaa
open Go.RowKit

/-- The slice v reads as these vectors. -/
def RdV (w : World) (v : Value) (vs : Vs) : Prop := ∃ a cap, v = .slice a vs.length cap ∧ ∀ i, i < vs.length → ∃ b o u, a = some ⟨b, o, none⟩ ∧ w.cell? ⟨b, o + i, none⟩ = some u ∧ RdI w u vs[i]!
theorem RdV.gb {w w' : World} {v : Value} {vs : Vs} (h : RdV w v vs) (g : Gb w w') : RdV w' v vs := by
  obtain ⟨a, cap, e, h⟩ := h
  refine ⟨a, cap, e, fun i hi => ?_⟩
  obtain ⟨b, o, u, e1, e2, e3⟩ := h i hi
  exact ⟨b, o, u, e1, gb_keeps g e2, e3.gb g⟩
theorem rdv_nil (w : World) : RdV w (.slice none 0 0) [] := ⟨none, 0, rfl, fun _ hi => absurd hi (Nat.not_lt_zero _)⟩

set_option maxHeartbeats 2000000 in
set_option maxRecDepth 100000 in
theorem checkAll_c {w : World} {v : Value} {vs : Vs} (h : RdV w v vs) (d : Int) (hlen : vs.length ≤ 4611686018427387904) :
    Calls Try.prog 65 #[v, .int .i64 d] w fun e w' => e = .returned (.int .i64 (vecsE vs d)) ∧ w = w' := by
  obtain ⟨a, cap, rfl, ha⟩ := h
  have A : Hid (∀ i, i < vs.length → ∃ b o u, a = some ⟨b, o, none⟩ ∧ w.cell? ⟨b, o + i, none⟩ = some u ∧ RdI w u vs[i]!) := ha
  obtain ⟨n, hN⟩ : ∃ n, n = vs.length := ⟨_, rfl⟩
  have N : Hid (n = vs.length) := hN
  rw [← hN] at hlen ⊢
  clear ha hN
  go_enter Try.func65, Try.ntmps65
  go_wp2
  go_loopw [10] (fun iv w' => ∃ q : Nat, iv = .int .i64 (q : Int) ∧ q ≤ n ∧ w = w' ∧ Hid (vecsTo vs d q = 0)) (fun iv _ => n - (intOf iv).toNat)
  case atStart => exact ⟨0, rfl, Nat.zero_le _, rfl, rfl⟩
  case round =>
    obtain ⟨q, rfl, hq, rfl, X⟩ := hrel
    by_cases hqn : q < n
    · have hqi : (q : Int) < (n : Int) := by omega
      have hql : q < vs.length := by have := N.out; omega
      obtain ⟨b, o, u, ea, h1, h2⟩ := A.out q hql
      subst ea
      have c := check_v h2 d _ rfl
      obtain ⟨pu, cu, rfl, _⟩ := h2
      by_cases hz : chk vs[q]! d = 0
      · have R : Hid (vecsTo vs d (q + 1) = 0) := vecsTo_next X.out hz
        rw [hz] at c
        generalize vs[q]!.length = m at *
        clear hz X hql
        go_wp2_with (go_at_call 34; refine c.mono ?_; rintro e w' ⟨rfl, e2⟩; subst e2)
        go_roundw
        case rel => exact ⟨q + 1, by simp, hqn, by first | rfl | trivial, R⟩
        case measure => simp [intOf]; omega
      · have hz' : (chk vs[q]! d == 0) = false := by rw [beq_eq_false_iff_ne]; exact hz
        have R : Hid (vecsE vs d = chk vs[q]! d) := vecsTo_err hql X.out hz
        generalize chk vs[q]! d = ce at *
        generalize vs[q]!.length = m at *
        clear X hql
        go_wp2_with (go_at_call 34; refine c.mono ?_; rintro e w' ⟨rfl, e2⟩; subst e2)
        go_ret
        exact ⟨by rw [R.out]; rfl, by first | rfl | trivial⟩
    · have hqi : ¬ (q : Int) < (n : Int) := by omega
      have R : Hid (vecsE vs d = 0) := by
        have h1 := X.out
        have h2 : q = vs.length := by have := N.out; omega
        rw [h2] at h1; exact h1
      go_wp2
      go_ret
      exact ⟨by rw [R.out]; rfl, by first | rfl | trivial⟩
theorem checkAll_v {w : World} {v : Value} {vs : Vs} (h : RdV w v vs) (d r : Int) (hlen : vs.length ≤ 4611686018427387904) (hr : vecsE vs d = r) :
    Calls Try.prog 65 #[v, .int .i64 d] w fun e w' => e = .returned (.int .i64 r) ∧ w = w' := by
  subst hr; exact checkAll_c h d hlen

/-- What is wrong with centres. -/
def cenE (cs : Vs) : Int := if 1 ≤ cs.length ∧ cs.length ≤ 64 then vecsE cs (cs[0]!.length : Int) else 1
theorem cenE_zero {cs : Vs} : cenE cs = 0 ↔ (1 ≤ cs.length ∧ cs.length ≤ 64) ∧ VsOk cs (cs[0]!.length : Int) := by
  unfold cenE
  split
  · rename_i h; rw [vecsE_zero]; exact ⟨fun e => ⟨h, e⟩, fun e => e.2⟩
  · rename_i h; exact ⟨fun e => by simp at e, fun e => absurd e.1 h⟩

set_option maxHeartbeats 1000000 in
theorem checkCentres_c {w : World} {v : Value} {cs : Vs} (h : RdV w v cs) :
    Calls Try.prog 52 #[v] w fun e w' => e = .returned (.int .i64 (cenE cs)) ∧ w = w' := by
  unfold cenE
  by_cases h1 : cs.length < 1
  · rw [if_neg (by omega)]
    obtain ⟨a, cap, rfl, ha⟩ := h
    generalize cs.length = n at *
    clear ha
    go_enter Try.func52, Try.ntmps52
    go_wp2
    go_ret
    exact ⟨rfl, rfl⟩
  · by_cases h2 : 64 < cs.length
    · rw [if_neg (by omega)]
      obtain ⟨a, cap, rfl, ha⟩ := h
      generalize cs.length = n at *
      clear ha
      go_enter Try.func52, Try.ntmps52
      go_wp2
      go_ret
      exact ⟨rfl, rfl⟩
    · rw [if_pos (by omega)]
      have c := checkAll_c h (cs[0]!.length : Int) (by omega)
      obtain ⟨a, cap, rfl, ha⟩ := h
      obtain ⟨b, o, u, ea, k1, k2⟩ := ha 0 (by omega)
      subst ea
      rw [Nat.add_zero] at k1
      obtain ⟨pu, cu, rfl, _⟩ := k2
      generalize cs.length = n at *
      generalize cs[0]!.length = m at *
      generalize vecsE cs m = z at *
      clear ha
      go_enter Try.func52, Try.ntmps52
      go_wp2_with (go_at_call 65; refine c.mono ?_; rintro e w' ⟨rfl, e2⟩; subst e2)
      go_ret
      exact ⟨rfl, rfl⟩

set_option maxHeartbeats 1000000 in
theorem checkTraining_c {w : World} {v : Value} {l : Vs} (h : RdV w v l) (k r : Int) :
    Calls Try.prog 69 #[v, .int .i64 k, .int .i64 r] w fun e w' => e = .returned (.int .i64 (trainE l k r)) ∧ w = w' := by
  by_cases h1 : 1 ≤ k ∧ k ≤ 64 ∧ 0 ≤ r ∧ r ≤ 20
  · by_cases h2 : l.length ≤ 512
    · by_cases h3 : (l.length : Int) < k
      · have e : trainE l k r = 60 := by unfold trainE; rw [if_pos h1, if_pos h2, if_pos h3]
        rw [e]
        obtain ⟨a, cap, rfl, ha⟩ := h
        obtain ⟨k1, k2, k3, k4⟩ := h1
        generalize l.length = n at *
        clear ha e
        go_enter Try.func69, Try.ntmps69
        go_wp2
        go_ret
        exact ⟨rfl, rfl⟩
      · have e : trainE l k r = vecsE l (l[0]!.length : Int) := by unfold trainE; rw [if_pos h1, if_pos h2, if_neg h3]
        rw [e]
        have c := checkAll_c h (l[0]!.length : Int) (by omega)
        obtain ⟨a, cap, rfl, ha⟩ := h
        obtain ⟨k1, k2, k3, k4⟩ := h1
        obtain ⟨b, o, u, ea, m1, m2⟩ := ha 0 (by omega)
        subst ea
        rw [Nat.add_zero] at m1
        obtain ⟨pu, cu, rfl, _⟩ := m2
        generalize vecsE l (l[0]!.length : Int) = z at *
        generalize l.length = n at *
        generalize l[0]!.length = m at *
        clear ha e
        go_enter Try.func69, Try.ntmps69
        go_wp2_with (go_at_call 65; refine c.mono ?_; rintro e w' ⟨rfl, e2⟩; subst e2)
        go_ret
        exact ⟨rfl, rfl⟩
    · have e : trainE l k r = 2 := by unfold trainE; rw [if_pos h1, if_neg h2]
      rw [e]
      obtain ⟨a, cap, rfl, ha⟩ := h
      obtain ⟨k1, k2, k3, k4⟩ := h1
      generalize l.length = n at *
      clear ha e
      go_enter Try.func69, Try.ntmps69
      go_wp2
      go_ret
      exact ⟨rfl, rfl⟩
  · have e : trainE l k r = 1 := by unfold trainE; rw [if_neg h1]
    rw [e]
    obtain ⟨a, cap, rfl, ha⟩ := h
    generalize l.length = n at *
    clear ha e
    by_cases k1 : k < 1
    · go_enter Try.func69, Try.ntmps69
      go_wp2
      go_ret
      exact ⟨rfl, rfl⟩
    by_cases k2 : 64 < k
    · go_enter Try.func69, Try.ntmps69
      go_wp2
      go_ret
      exact ⟨rfl, rfl⟩
    by_cases k3 : r < 0
    · go_enter Try.func69, Try.ntmps69
      go_wp2
      go_ret
      exact ⟨rfl, rfl⟩
    have k4 : 20 < r := by omega
    go_enter Try.func69, Try.ntmps69
    go_wp2
    go_ret
    exact ⟨rfl, rfl⟩
end Go.Proofs.Ytblfmhdcgmkpgaa
