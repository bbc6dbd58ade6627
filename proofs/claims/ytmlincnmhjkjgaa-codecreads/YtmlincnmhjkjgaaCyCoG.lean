/- dimOf, checkRows. -/
import Derived.Test.YtmlincnmhjkjgaaCyCoF
namespace Go.Proofs.Ytmlincnmhjkjgaa
open Go.RowKit

/-- The dimension that the rows' text names; do the first q ids rise? -/
def dimR (rs : List Rw) : Nat := match rs with
  | [] => 0
  | r :: _ => r.2.length
def riseR (rs : List Rw) : Nat → Bool
  | 0 => true
  | q + 1 => riseR rs q && decide (rs[q]!.1 < rs[q + 1]!.1)
/-- What keeps rows from having a text. -/
def crE (rs : List Rw) : Int := if rs.length = 0 then 0 else if flE rs (dimR rs : Int) = 0 then (if riseR rs (rs.length - 1) = true then 0 else 50) else flE rs (dimR rs : Int)
theorem riseR_stay {rs : List Rw} {p q : Nat} (hpq : p ≤ q) (h : riseR rs p = false) : riseR rs q = false := by
  induction q with
  | zero => have : p = 0 := by omega
            subst this; exact h
  | succ q ih =>
    by_cases e : p = q + 1
    · subst e; exact h
    · rw [riseR, ih (by omega)]; rfl
theorem dimR_get {rs : List Rw} (h : 0 < rs.length) : dimR rs = rs[0]!.2.length := by
  cases rs with
  | nil => simp at h
  | cons r l => rfl
theorem dimOf_c {w : World} {v : Value} {rs : List Rw} (h : RdW w v rs) :
    Calls Try.prog 19 #[v] w fun e w' => e = .returned (.int .i64 (dimR rs : Int)) ∧ w = w' := by
  obtain ⟨a, cap, rfl, ha⟩ := h
  by_cases h0 : rs.length = 0
  · have e : dimR rs = 0 := by rw [List.length_eq_zero_iff.1 h0]; rfl
    rw [h0, e]
    clear ha h0 e
    go_enter Try.func19, Try.ntmps19
    go_wp2
    go_ret
    exact ⟨rfl, rfl⟩
  · obtain ⟨b, o, u, rfl, h1, h2, p, c, rfl, _⟩ := ha 0 (by omega)
    rw [dimR_get (by omega)]
    have hn : 0 < rs.length := by omega
    generalize rs[0]!.2.length = d at *
    generalize rs.length = n at *
    rw [Nat.zero_mul, Nat.add_zero] at h1 h2
    have h0' : ((n : Int) == 0) = false := by rw [beq_eq_false_iff_ne]; omega
    go_enter Try.func19, Try.ntmps19
    go_wp2
    go_ret
    exact ⟨rfl, rfl⟩
/-- A slice has room for itself. -/
def Rm (v : Value) : Prop := ∀ a n cap, v = .slice a n cap → n ≤ cap
set_option maxHeartbeats 4000000 in
set_option maxRecDepth 100000 in
theorem checkRows_c {w : World} {v : Value} {rs : List Rw} (h : RdW w v rs) (hrm : Rm v) (hwf : WfR rs) :
    Calls Try.prog 18 #[v] w fun e w' => e = .returned (.int .i64 (crE rs)) ∧ Gb w w' := by
  have dO := fun W (g : Gb w W) => dimOf_c (h.gb g)
  have cF := fun W (g : Gb w W) => cflat_c (h.gb g) hwf (dimR rs : Int)
  obtain ⟨a, cap, rfl, ha⟩ := h
  have hcap : rs.length ≤ cap := hrm _ _ _ rfl
  have EE : Hid (crE rs = if rs.length = 0 then 0 else if flE rs (dimR rs : Int) = 0 then (if riseR rs (rs.length - 1) = true then 0 else 50) else flE rs (dimR rs : Int)) := rfl
  by_cases h0 : rs.length = 0
  · have E : crE rs = 0 := by rw [EE.out, if_pos h0]
    rw [E, h0]
    clear ha dO cF
    go_enter Try.func18, Try.ntmps18
    go_wp2
    go_ret
    exact ⟨rfl, Below.refl _ _⟩
  have A : Hid (∀ i, i < rs.length → ∃ b o u, a = some ⟨b, o, none⟩ ∧ w.cell? ⟨b, o + i * 2, none⟩ = some (.int .i64 rs[i]!.1) ∧ w.cell? ⟨b, o + i * 2 + 1, none⟩ = some u ∧ RdI w u rs[i]!.2) := ha
  have hlen := hwf.1
  obtain ⟨n, hN⟩ : ∃ n, n = rs.length := ⟨_, rfl⟩
  have N : Hid (n = rs.length) := hN
  rw [← hN] at h0 hcap hlen dO cF ⊢
  clear ha hwf hN
  have h0' : ((n : Int) == 0) = false := by rw [beq_eq_false_iff_ne]; omega
  have hn1 : 1 ≤ n := by omega
  generalize (dimR rs : Int) = d at *
  by_cases hz : flE rs d = 0
  · have E : Hid (crE rs = if riseR rs (n - 1) = true then 0 else 50) := by unfold Hid; rw [EE.out, if_neg (by have := N.out; omega), if_pos hz, N.out]
    rw [hz] at cF
    obtain ⟨m, rfl⟩ : ∃ m, n = m + 1 := ⟨n - 1, by omega⟩
    rw [show m + 1 - 1 = m by omega] at E
    obtain ⟨b, o, u0, ea, _⟩ := A.out 0 (by have := N.out; omega)
    subst ea
    clear hz h0 hn1
    by_cases hc1 : cap = 1
    · subst hc1
      have hm : m = 0 := by omega
      subst hm
      have E0 : crE rs = 0 := by rw [E.out]; rfl
      rw [E0]
      go_enter Try.func18, Try.ntmps18
      go_wp2_with fail
      refine (dO _ (Below.refl _ _)).mono ?_
      rintro e w' ⟨rfl, rfl⟩
      go_wp2_with fail
      refine (cF _ (Below.refl _ _)).mono ?_
      rintro e w1 ⟨rfl, g1⟩
      go_wp2
      go_loopw [19] (fun iv w' => iv = .int .i64 0 ∧ w1 = w') (fun _ _ => 0)
      case atStart => exact ⟨rfl, rfl⟩
      case round =>
        obtain ⟨rfl, rfl⟩ := hrel
        go_wp2
        go_ret
        exact ⟨rfl, g1⟩
    · go_enter Try.func18, Try.ntmps18
      go_wp2_with fail
      refine (dO _ (Below.refl _ _)).mono ?_
      rintro e w' ⟨rfl, rfl⟩
      go_wp2_with fail
      refine (cF _ (Below.refl _ _)).mono ?_
      rintro e w1 ⟨rfl, g1⟩
      have hm0 : (1 : Int) ≤ (m : Int) + 1 := by omega
      have G1 : Hid (Gb w w1) := g1
      go_wp2
      go_loopw [19] (fun iv w' => ∃ q : Nat, iv = .int .i64 (q : Int) ∧ q ≤ m ∧ Hid (riseR rs q = true ∧ Gb w w')) (fun iv _ => m - (intOf iv).toNat)
      case atStart => exact ⟨0, rfl, Nat.zero_le _, rfl, G1.out⟩
      case round =>
        obtain ⟨q, rfl, hq, X⟩ := hrel
        by_cases hqm : q < m
        · have hqi : (q : Int) < (m : Int) := by omega
          obtain ⟨b', o', u', e', a1, a2, _⟩ := A.out q (by have := N.out; omega)
          obtain ⟨b2, o2, u2, e2, c1, c2, p2, k2, rfl, _⟩ := A.out (q + 1) (by have := N.out; omega)
          cases e'
          cases e2
          replace a1 := gb_keeps X.out.2 a1
          replace c1 := gb_keeps X.out.2 c1
          replace c2 := gb_keeps X.out.2 c2
          rw [show o + (q + 1) * 2 = o + 2 + q * 2 by omega] at c1 c2
          have hbl : b < wr.heap.size := cell_lt a1
          have hbn : wr.heap.size ≠ b := by omega
          have S : Hid (riseR rs (q + 1) = (riseR rs q && decide (rs[q]!.1 < rs[q + 1]!.1))) := rfl
          have ST : Hid (riseR rs (q + 1) = false → riseR rs m = false) := fun h => riseR_stay hqm h
          generalize rs[q]!.1 = x at *
          generalize rs[q + 1]!.1 = y at *
          generalize rs[q + 1]!.2.length = ly at *
          by_cases hxy : y ≤ x
          · have ES : Hid (riseR rs m = false) := ST.out (by rw [S.out, X.out.1]; simp; omega)
            have EC : Hid (crE rs = 50) := by unfold Hid; rw [E.out, if_neg (by rw [ES.out]; simp)]
            go_wp2
            go_quiet (fail)
            go_wp2
            go_ret
            exact ⟨by rw [EC.out]; rfl, below_drewN (gb_alloc X.out.2 _) _⟩
          · have ES : Hid (riseR rs (q + 1) = true) := by unfold Hid; rw [S.out, X.out.1]; simp; omega
            go_wp2
            go_quiet (fail)
            go_wp2
            exact ⟨⟨q + 1, by simp, hqm, ES.out, below_drewN (gb_alloc X.out.2 _) _⟩, by simp [intOf]; omega⟩
        · have e : q = m := by omega
          subst e
          go_wp2
          go_ret
          exact ⟨by rw [E.out, if_pos X.out.1]; rfl, X.out.2⟩
  · have E : crE rs = flE rs d := by rw [EE.out, if_neg (by have := N.out; omega), if_neg hz]
    rw [E]
    generalize flE rs d = z at *
    have hz' : (z != 0) = true := by rw [bne_iff_ne]; exact hz
    clear hz A
    go_enter Try.func18, Try.ntmps18
    go_wp2_with fail
    refine (dO _ (Below.refl _ _)).mono ?_
    rintro e w' ⟨rfl, rfl⟩
    go_wp2_with fail
    refine (cF _ (Below.refl _ _)).mono ?_
    rintro e w1 ⟨rfl, g1⟩
    go_wp2
    go_ret
    exact ⟨rfl, g1⟩
end Go.Proofs.Ytmlincnmhjkjgaa
