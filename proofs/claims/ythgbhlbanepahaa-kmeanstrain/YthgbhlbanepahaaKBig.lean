/- The law's big; vectors that came in. -/
import Derived.Test.YthgbhlbanepahaaKRd
import Derived.Test.YthgbhlbanepahaaLift
namespace Go.Proofs.Ythgbhlbanepahaa
open Go.ChangeShapes Go.WideShapes Go.ChangeAt Go.RowKit Go.Joins Go.Deep

/-- What big tells. -/
def BigR (n : Nat) (w : World) (e : Ending) (w' : World) : Prop := (∃ b, e = .returned (.bool b) ∧ (b = false → n ≤ 65536)) ∧ w = w'
set_option maxHeartbeats 2000000 in
set_option maxRecDepth 100000 in
theorem big_c {w : World} {v : Value} {vs : Vs} (h : RdV w v vs) :
    Calls Try.prog 4 #[v] w fun e w' => BigR vs.length w e w' := by
  obtain ⟨a, cap, rfl, ha⟩ := h
  by_cases hb : 65536 < vs.length
  · have R : Hid (∀ b, b = true → b = false → vs.length ≤ 65536) := fun b e e2 => by rw [e] at e2; cases e2
    generalize vs.length = n at *
    clear ha
    have h0 : 0 < n := by omega
    go_enter Try.func4, Try.ntmps4
    go_wp2
    go_loopw [3, 4] (fun sv iv w' => sv = .int .i64 (n : Int) ∧ iv = .int .i64 0 ∧ w = w') (fun _ _ _ => 0)
    case atStart => exact ⟨rfl, rfl, rfl⟩
    case round =>
      obtain ⟨rfl, rfl, rfl⟩ := hrel
      go_wp2
      go_ret
      exact ⟨⟨true, rfl, R.out true rfl⟩, by first | rfl | trivial⟩
  · have A : Hid (∀ i, i < vs.length → ∃ b o u, a = some ⟨b, o, none⟩ ∧ w.cell? ⟨b, o + i, none⟩ = some u ∧ RdI w u vs[i]!) := ha
    have R : Hid (vs.length ≤ 65536) := by unfold Hid; omega
    obtain ⟨n, hN⟩ : ∃ n, n = vs.length := ⟨_, rfl⟩
    have N : Hid (n = vs.length) := hN
    rw [← hN] at hb
    rw [← hN]
    clear ha hN
    go_enter Try.func4, Try.ntmps4
    go_wp2
    go_loopw [3, 4] (fun sv iv w' => ∃ (q : Nat) (z : Int), iv = .int .i64 (q : Int) ∧ q ≤ n ∧ sv = .int .i64 z ∧ w = w') (fun _ iv _ => n - (intOf iv).toNat)
    case atStart => exact ⟨0, n, rfl, Nat.zero_le _, rfl, rfl⟩
    case round =>
      obtain ⟨q, z, rfl, hq, rfl, rfl⟩ := hrel
      by_cases hqn : q < n
      · have hqi : (q : Int) < (n : Int) := by omega
        by_cases hz : z ≤ 65536
        · obtain ⟨b, o, u, ea, k1, k2⟩ := A.out q (by have := N.out; omega)
          subst ea
          obtain ⟨pu, cu, rfl, _⟩ := k2
          generalize vs[q]!.length = m at *
          go_wp2
          go_roundw
          case rel => exact ⟨q + 1, _, by go_num, hqn, rfl, by first | rfl | trivial⟩
          case measure => simp [intOf]; omega
        · go_wp2
          go_ret
          exact ⟨⟨_, rfl, fun _ => by have := R.out; have := N.out; omega⟩, by first | rfl | trivial⟩
      · have hqi : ¬ (q : Int) < (n : Int) := by omega
        go_wp2
        go_ret
        exact ⟨⟨_, rfl, fun _ => by have := R.out; have := N.out; omega⟩, by first | rfl | trivial⟩

theorem Try.cellsV : Try.prog.cellsOf 30 = 1 := by kernel_rfl
set_option maxRecDepth 100000 in
/-- Vectors that came in. -/
theorem open_vecs {H : Type} {enc : TypeId × Value → H} {W : World} {b0 : Nat} {r : Reach} {v : Value} {d : DataW H} {p : List MemPlace}
    (hv' : Value.okWide Try.prog W r b0 22 v) (h : DataW.Trod enc Try.prog W 0 (fun _ => true) true 22 v d p) : ∃ vs : Vs, RdV W v vs ∧ vs.length ≤ maxLen ∧ ∀ i, i < vs.length → vs[i]!.length ≤ maxLen := by
  obtain ⟨a0, len, cap, rfl⟩ := okWide_slice Try.underlying22 hv'
  obtain ⟨fuel, hf⟩ := h
  rcases open_slice1 Try.underlying22 Try.cellsV (by simpa [Value.cells] using hf) with ⟨e, _⟩ | ⟨a, len, cap, m, n, V, D, Pl, e, _, hlc, hcm, hm, _, hx⟩
  · cases e
    exact ⟨[], rdv_nil _, Nat.zero_le _, fun i hi => absurd hi (Nat.not_lt_zero _)⟩
  · cases e
    rw [if_pos rfl] at hm
    subst hm
    have hy : ∀ i, i < len → ∃ y : List Int, (∃ u, W.cell? (a.add i) = some u ∧ RdI W u y) ∧ y.length ≤ maxLen := by
      intro i hi
      obtain ⟨hc, ht⟩ := hx i (by omega)
      obtain ⟨u, l, e6, rl, ll⟩ := trod22 ht
      simp at e6
      exact ⟨l, ⟨u, by rw [hc, e6], rl⟩, ll⟩
    obtain ⟨Y, hY⟩ := choose_lt (α := List Int) (p := fun i y => (∃ u, W.cell? (a.add i) = some u ∧ RdI W u y) ∧ y.length ≤ maxLen) hy
    have hg : ∀ i, i < len → ((List.range len).map Y)[i]! = Y i := by
      intro i hi
      rw [getElem!_pos _ i (by simpa using hi)]; simp
    refine ⟨(List.range len).map Y, ⟨some a, m, by simp, fun i hi => ?_⟩, by simp; omega, fun i hi => ?_⟩
    · have hi' : i < len := by simpa using hi
      obtain ⟨⟨u0, q0, _⟩, _⟩ := hY 0 (by omega)
      have ha : a = ⟨a.block, a.off, none⟩ := spot_none (by simpa [Addr.add] using q0)
      obtain ⟨⟨u, q1, q3⟩, _⟩ := hY i hi'
      rw [hg i hi']
      rw [ha, Addr.add_lit] at q1
      exact ⟨a.block, a.off, u, by rw [← ha], q1, q3⟩
    · have hi' : i < len := by simpa using hi
      rw [hg i hi']; exact (hY i hi').2
end Go.Proofs.Ythgbhlbanepahaa
