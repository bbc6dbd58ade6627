/- The reference's digits and Cost. -/
import Derived.Test.YtgmjokmiifmckaaRoC
namespace Go.Proofs.Ytgmjokmiifmckaa
open Go.RowKit

theorem dig_zero : digV 0 = 0 := by decide
theorem dig_half {m : Int} (h0 : 1 ≤ m) (h1 : m ≤ 512) : digV m = 1 + digV (m / 2) := by
  obtain ⟨k, rfl⟩ := Int.eq_ofNat_of_zero_le (show 0 ≤ m by omega)
  have := Lib.bitLen_half k (by omega) (by omega)
  unfold digV
  have e : ((k : Int) / 2).toNat = k / 2 := by omega
  rw [e, Int.toNat_natCast, this]
  omega
set_option maxHeartbeats 1000000 in
theorem digits_c (x : Int) (w : World) (h0 : 0 ≤ x) (h1 : x ≤ 512) : Calls Try.prog 22 #[.int .i64 x] w fun e w' => e = .returned (.int .i64 (digV x)) ∧ w' = w := by
  have hx := digV_bd h0 h1
  obtain ⟨d, hd⟩ : ∃ d, d = digV x := ⟨_, rfl⟩
  have D : Hid (d = digV x) := hd
  rw [← hd] at hx ⊢
  clear hd
  go_enter Try.func22, Try.ntmps22
  go_wp2
  go_loopw [0, 3] (fun nv gv w' => ∃ m g : Int, nv = .int .i64 m ∧ gv = .int .i64 g ∧ 0 ≤ m ∧ m ≤ 512 ∧ 0 ≤ g ∧ g ≤ d ∧ w = w' ∧ Hid (g + digV m = d)) (fun nv _ _ => (intOf nv).toNat)
  case atStart => exact ⟨x, 0, rfl, rfl, h0, h1, by omega, by omega, rfl, by have := D.out; unfold Hid; omega⟩
  case round =>
    obtain ⟨m, g, rfl, rfl, m0, m1, g0, g1, rfl, X⟩ := hrel
    by_cases hm : 0 < m
    · have R : Hid (g + 1 + digV (m / 2) = d ∧ g + 1 ≤ d) := by
        have e := dig_half (m := m) (by omega) m1
        have := X.out
        have := (digV_bd (n := m / 2) (by omega) (by omega)).1
        refine ⟨?_, ?_⟩ <;> omega
      clear X
      go_wp2
      go_roundw
      case rel => exact ⟨m / 2, g + 1, by first | rfl | simp, by first | rfl | simp, by omega, by omega, by omega, R.out.2, by first | rfl | trivial, R.out.1⟩
      case measure => simp [intOf]; omega
    · have R : Hid (g = d) := by
        have e : m = 0 := by omega
        have := X.out
        rw [e, dig_zero] at this
        unfold Hid; omega
      clear X
      go_wp2
      go_ret
      exact ⟨by rw [R.out]; rfl, by first | rfl | trivial⟩
set_option maxHeartbeats 4000000 in
theorem rcost_c (k n p c rows dim : Int) (w : World) :
    Calls Try.prog 8 #[Sp k n p c, .int .i64 rows, .int .i64 dim] w fun e w' => e = .returned (.tuple #[.int .i64 (cstN k n p c rows dim), .int .i64 (cstE k n p c rows dim)]) ∧ Gb w w' := by
  have hC := fun W => rfchk_c k n p c W
  by_cases h0 : chkV k n p c = 0
  · by_cases h1 : rows < 0
    · have e : Hid (cstE k n p c rows dim = 1) := by unfold Hid; simp only [cstE, h0, if_true]; rw [if_pos (by omega)]
      have e' : Hid (cstN k n p c rows dim = 0) := by unfold Hid; simp [cstN, e.out]
      rw [h0] at hC
      clear h0
      go_enter Try.func8, Try.ntmps8
      go_wp2_with (go_at_call 21; refine (hC _).mono ?_; rintro e w' ⟨rfl, rfl⟩)
      go_ret2
      rw [e.out, e'.out]
      exact ⟨rfl, gb_alloc (gb_alloc (Below.refl _ _) _) _⟩
    by_cases h2 : 512 < rows
    · have e : Hid (cstE k n p c rows dim = 1) := by unfold Hid; simp only [cstE, h0, if_true]; rw [if_pos (by omega)]
      have e' : Hid (cstN k n p c rows dim = 0) := by unfold Hid; simp [cstN, e.out]
      rw [h0] at hC
      clear h0
      go_enter Try.func8, Try.ntmps8
      go_wp2_with (go_at_call 21; refine (hC _).mono ?_; rintro e w' ⟨rfl, rfl⟩)
      go_ret2
      rw [e.out, e'.out]
      exact ⟨rfl, gb_alloc (gb_alloc (Below.refl _ _) _) _⟩
    by_cases h3 : dim < 1
    · have e : Hid (cstE k n p c rows dim = 1) := by unfold Hid; simp only [cstE, h0, if_true]; rw [if_pos (by omega)]
      have e' : Hid (cstN k n p c rows dim = 0) := by unfold Hid; simp [cstN, e.out]
      rw [h0] at hC
      clear h0
      go_enter Try.func8, Try.ntmps8
      go_wp2_with (go_at_call 21; refine (hC _).mono ?_; rintro e w' ⟨rfl, rfl⟩)
      go_ret2
      rw [e.out, e'.out]
      exact ⟨rfl, gb_alloc (gb_alloc (Below.refl _ _) _) _⟩
    by_cases h4 : 64 < dim
    · have e : Hid (cstE k n p c rows dim = 1) := by unfold Hid; simp only [cstE, h0, if_true]; rw [if_pos (by omega)]
      have e' : Hid (cstN k n p c rows dim = 0) := by unfold Hid; simp [cstN, e.out]
      rw [h0] at hC
      clear h0
      go_enter Try.func8, Try.ntmps8
      go_wp2_with (go_at_call 21; refine (hC _).mono ?_; rintro e w' ⟨rfl, rfl⟩)
      go_ret2
      rw [e.out, e'.out]
      exact ⟨rfl, gb_alloc (gb_alloc (Below.refl _ _) _) _⟩
    have e : cstE k n p c rows dim = 0 := by simp only [cstE, h0, if_true]; rw [if_neg (by omega)]
    have e' : cstN k n p c rows dim = cstV k n p c rows dim := by simp [cstN, e]
    rw [e, e']
    have hD := fun W => digits_c rows W (by omega) (by omega)
    have hg := digV_bd (n := rows) (by omega) (by omega)
    obtain ⟨⟨k1, k2⟩, ⟨n1, n2⟩, hn1, ⟨p1, p2⟩, ⟨c1, c2⟩⟩ := chk_bd h0
    rw [h0] at hC
    clear h0 e e'
    have hk : k = 1 ∨ k = 2 ∨ k = 3 ∨ k = 4 ∨ k = 5 ∨ k = 6 := by omega
    rcases hk with rfl | rfl | rfl | rfl | rfl | rfl
    · rw [show cstV 1 n p c rows dim = dim * rows from rfl]
      obtain ⟨q1, q2⟩ := prod_bd (a := dim) (b := rows) (A := 64) (B := 512) (by omega) (by omega) (by omega) (by omega)
      go_enter Try.func8, Try.ntmps8
      go_wp2_with first | (go_at_call 21; refine (hC _).mono ?_; rintro e w' ⟨rfl, rfl⟩) | (go_at_call 22; refine (hD _).mono ?_; rintro e w' ⟨rfl, rfl⟩)
      go_ret2
      exact ⟨rfl, gb_alloc (gb_alloc (Below.refl _ _) _) _⟩
    · rw [show cstV 2 n p c rows dim = dim * min rows (2 * n * digV rows) from rfl]
      generalize digV rows = g at *
      obtain ⟨q1, q2⟩ := prod_bd (a := 2 * n) (b := g) (A := 256) (B := 10) (by omega) (by omega) hg.1 hg.2
      obtain ⟨q3, q4⟩ := prod_bd (a := dim) (b := min rows (2 * n * g)) (A := 64) (B := 512) (by omega) (by omega) (by omega) (by omega)
      clear hg
      go_enter Try.func8, Try.ntmps8
      go_wp2_with first | (go_at_call 21; refine (hC _).mono ?_; rintro e w' ⟨rfl, rfl⟩) | (go_at_call 22; refine (hD _).mono ?_; rintro e w' ⟨rfl, rfl⟩)
      go_ret2
      exact ⟨rfl, gb_alloc (gb_alloc (Below.refl _ _) _) _⟩
    · rw [show cstV 3 n p c rows dim = dim * min rows (3 * n * digV rows) from rfl]
      generalize digV rows = g at *
      obtain ⟨q1, q2⟩ := prod_bd (a := 3 * n) (b := g) (A := 256) (B := 10) (by omega) (by omega) hg.1 hg.2
      obtain ⟨q3, q4⟩ := prod_bd (a := dim) (b := min rows (3 * n * g)) (A := 64) (B := 512) (by omega) (by omega) (by omega) (by omega)
      clear hg
      go_enter Try.func8, Try.ntmps8
      go_wp2_with first | (go_at_call 21; refine (hC _).mono ?_; rintro e w' ⟨rfl, rfl⟩) | (go_at_call 22; refine (hD _).mono ?_; rintro e w' ⟨rfl, rfl⟩)
      go_ret2
      exact ⟨rfl, gb_alloc (gb_alloc (Below.refl _ _) _) _⟩
    · rw [show cstV 4 n p c rows dim = dim * (n + upV (2 * rows) n) from rfl]
      have n1 := hn1 (by omega)
      have hL := fun W => up_c (2 * rows) n W (by omega) (by omega) n1 (by omega)
      have hu := upV_bd (a := 2 * rows) (by omega) n1
      generalize upV (2 * rows) n = u at *
      obtain ⟨q1, q2⟩ := prod_bd (a := dim) (b := n + u) (A := 64) (B := 2000) (by omega) (by omega) (by omega) (by omega)
      go_enter Try.func8, Try.ntmps8
      go_wp2_with first | (go_at_call 21; refine (hC _).mono ?_; rintro e w' ⟨rfl, rfl⟩) | (go_at_call 22; refine (hD _).mono ?_; rintro e w' ⟨rfl, rfl⟩)
      go_quiet (first | (go_at_call 23; exact Calls.quiet_of_same (hL _)))
      go_wp2
      go_ret2
      exact ⟨rfl, below_drewN (gb_alloc (gb_alloc (Below.refl _ _) _) _) _⟩
    · rw [show cstV 5 n p c rows dim = dim * (n + c + 16) + p * upV rows n from rfl]
      have n1 := hn1 (by omega)
      have hL := fun W => up_c rows n W (by omega) (by omega) n1 (by omega)
      have hu := upV_bd (a := rows) (by omega) n1
      generalize upV rows n = u at *
      obtain ⟨q1, q2⟩ := prod_bd (a := dim) (b := n + c + 16) (A := 64) (B := 100) (by omega) (by omega) (by omega) (by omega)
      obtain ⟨q3, q4⟩ := prod_bd (a := p) (b := u) (A := 8) (B := 512) (by omega) (by omega) (by omega) (by omega)
      go_enter Try.func8, Try.ntmps8
      go_wp2_with first | (go_at_call 21; refine (hC _).mono ?_; rintro e w' ⟨rfl, rfl⟩) | (go_at_call 22; refine (hD _).mono ?_; rintro e w' ⟨rfl, rfl⟩)
      go_quiet (first | (go_at_call 23; exact Calls.quiet_of_same (hL _)))
      go_wp2
      go_ret2
      exact ⟨rfl, below_drewN (gb_alloc (gb_alloc (Below.refl _ _) _) _) _⟩
    · rw [show cstV 6 n p c rows dim = dim * min rows (4 * n * digV rows) from rfl]
      generalize digV rows = g at *
      obtain ⟨q1, q2⟩ := prod_bd (a := 4 * n) (b := g) (A := 256) (B := 10) (by omega) (by omega) hg.1 hg.2
      obtain ⟨q3, q4⟩ := prod_bd (a := dim) (b := min rows (4 * n * g)) (A := 64) (B := 512) (by omega) (by omega) (by omega) (by omega)
      clear hg
      go_enter Try.func8, Try.ntmps8
      go_wp2_with first | (go_at_call 21; refine (hC _).mono ?_; rintro e w' ⟨rfl, rfl⟩) | (go_at_call 22; refine (hD _).mono ?_; rintro e w' ⟨rfl, rfl⟩)
      go_ret2
      exact ⟨rfl, gb_alloc (gb_alloc (Below.refl _ _) _) _⟩
  · have e : cstE k n p c rows dim = chkV k n p c := by simp [cstE, h0]
    have e' : cstN k n p c rows dim = 0 := by simp [cstN, e, h0]
    rw [e, e']
    have hb : (chkV k n p c != 0) = true := by simpa using h0
    clear e e' h0
    generalize chkV k n p c = z at *
    go_enter Try.func8, Try.ntmps8
    go_wp2_with (go_at_call 21; refine (hC _).mono ?_; rintro e w' ⟨rfl, rfl⟩)
    go_ret2
    exact ⟨rfl, gb_alloc (gb_alloc (Below.refl _ _) _) _⟩
end Go.Proofs.Ytgmjokmiifmckaa
