/- law15's awake; RouterCosts' call. -/
import Derived.Test.YtgmjokmiifmckaaRoP
import Derived.Test.YtgmjokmiifmckaaRoB
namespace Go.Proofs.Ytgmjokmiifmckaa
open Go.RowKit

theorem kd0_c (w : World) : Calls Try.prog 24 #[] w fun e w' => e = .returned (Sp 2 2 0 0) ∧ Gb w w' := by
  go_enter Try.func24, Try.ntmps24
  go_wp2
  exact bodyPost_ret (v := Sp 2 2 0 0) (by simp [results, Try.results24, go_sem]) rfl ⟨rfl, by repeat (first | exact Below.refl _ _ | refine gb_alloc ?_ _ | refine gb_set ?_ (by simp) _)⟩
theorem rds_two (W : World) (x y : N4) : RdS (W.alloc (.cells #[.int .i64 x.1, .int .i64 x.2.1, .int .i64 x.2.2.1, .int .i64 x.2.2.2, .int .i64 y.1, .int .i64 y.2.1, .int .i64 y.2.2.1, .int .i64 y.2.2.2] 24)) (.slice (some ⟨W.heap.size, 0, none⟩) 2 2) [x, y] := by
  refine ⟨_, _, rfl, fun i hi => ⟨W.heap.size, 0, rfl, ?_⟩⟩
  have : i = 0 ∨ i = 1 := by simp at hi; omega
  rcases this with rfl | rfl <;> simp [go_sem]
theorem rdi_1 (W : World) (x : Int) : RdI (W.alloc (.cells #[.int .i64 x] 3)) (.slice (some ⟨W.heap.size, 0, none⟩) 1 1) [x] := by
  refine ⟨_, _, rfl, fun i hi => ⟨W.heap.size, 0, rfl, ?_⟩⟩
  have : i = 0 := by simp at hi; omega
  subst this
  simp [go_sem]
set_option maxHeartbeats 4000000 in
theorem awake_c (w : World) : Calls Try.prog 9 #[] w fun e w' => e = .returned (.bool true) ∧ Gb w w' := by
  have h1 := fun W => cost_c 2 2 0 0 100 4 W
  rw [show cstN 2 2 0 0 100 4 = 112 by decide, show cstE 2 2 0 0 100 4 = 0 by decide] at h1
  have h2 := fun W => cost_c 5 8 2 4 100 4 W
  rw [show cstN 5 8 2 4 100 4 = 138 by decide, show cstE 5 8 2 4 100 4 = 0 by decide] at h2
  have h3 := fun W => choose_c (rds_two W (1, 0, 0, 0) (2, 2, 0, 0)) 100 4 3 2
  rw [show choN [(1, 0, 0, 0), (2, 2, 0, 0)] 100 4 3 2 = 1 by decide, show choE [(1, 0, 0, 0), (2, 2, 0, 0)] 100 4 3 2 = 0 by decide] at h3
  have h4 := fun W => budget_c (rdi_1 W 1) 2 2 0 0 100 1 2 7
  rw [show buN 2 2 0 0 100 [1] 1 2 7 = 7 by decide, show buE 2 2 0 0 100 [1] 1 2 7 = 0 by decide] at h4
  have h5 := fun W => qcheck_c (rdi_1 W 1) 1 3 0 1
  rw [show qE [1] 1 3 0 1 = 210 by decide] at h5
  go_enter Try.func9, Try.ntmps9
  go_wp2_with fail
  refine (kd0_c _).mono ?_
  rintro e v1 ⟨rfl, k1⟩
  go_wp2_with fail
  refine (h1 _).mono ?_
  rintro e w1 ⟨rfl, g1⟩
  go_wp2_with fail
  refine (h2 _).mono ?_
  rintro e w2 ⟨rfl, g2⟩
  go_wp2_with fail
  refine (kd0_c _).mono ?_
  rintro e v3 ⟨rfl, k3⟩
  go_wp2_with fail
  refine (h3 _).mono ?_
  rintro e w3 ⟨rfl, g3⟩
  go_wp2_with fail
  refine (kd0_c _).mono ?_
  rintro e v4 ⟨rfl, k4⟩
  go_wp2_with fail
  refine (h4 _).mono ?_
  rintro e w4 ⟨rfl, g4⟩
  go_wp2_with fail
  refine (h5 _).mono ?_
  rintro e w5 ⟨rfl, g5⟩
  go_wp2
  go_ret
  exact ⟨rfl, gb_trans (gb_trans (gb_trans k1 g1) (gb_trans g2 k3)) (gb_trans (gb_trans (gb_alloc (Below.refl _ _) _) g3) (gb_trans (gb_trans k4 (gb_trans (gb_alloc (Below.refl _ _) _) g4)) (gb_trans (gb_alloc (Below.refl _ _) _) g5)))⟩
set_option maxHeartbeats 4000000 in
/-- RouterCosts' call. -/
theorem costs_law (k n p c rows dim : Int) (w : World) : Calls Try.prog 3 #[Sp k n p c, .int .i64 rows, .int .i64 dim] w fun e w' => e = .returned (.bool true) ∧ Gb w w' := by
  have h1 := fun W => cost_c k n p c rows dim W
  have h2 := fun W => rcost_c k n p c rows dim W
  generalize cstN k n p c rows dim = x at *
  generalize cstE k n p c rows dim = y at *
  go_enter Try.func3, Try.ntmps3
  go_wp2_with fail
  refine (h1 _).mono ?_
  rintro e w1 ⟨rfl, g1⟩
  have c0 : w1.cell? ⟨w.heap.size, 0, none⟩ = some (.int .i64 k) := gb_keeps g1 (by simp [go_sem])
  have c1 : w1.cell? ⟨w.heap.size, 1, none⟩ = some (.int .i64 n) := gb_keeps g1 (by simp [go_sem])
  have c2 : w1.cell? ⟨w.heap.size, 2, none⟩ = some (.int .i64 p) := gb_keeps g1 (by simp [go_sem])
  have c3 : w1.cell? ⟨w.heap.size, 3, none⟩ = some (.int .i64 c) := gb_keeps g1 (by simp [go_sem])
  go_wp2_with fail
  refine (h2 _).mono ?_
  rintro e w2 ⟨rfl, g2⟩
  go_wp2_with fail
  refine (awake_c _).mono ?_
  rintro e w3 ⟨rfl, g3⟩
  go_wp2
  go_ret
  exact ⟨rfl, gb_trans (gb_trans (gb_alloc (Below.refl _ _) _) g1) (gb_trans g2 g3)⟩
end Go.Proofs.Ytgmjokmiifmckaa
