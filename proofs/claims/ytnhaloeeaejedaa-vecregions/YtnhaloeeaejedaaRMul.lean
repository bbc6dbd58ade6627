/- The reference's Mul, as a contract. -/
import Derived.Test.YtnhaloeeaejedaaTimes
namespace Go.Proofs.Ytnhaloeeaejedaa
open Go.RowKit

theorem of_small (x : Nat) (h : x < 18446744073709551616) (w : World) :
    Calls Try.prog 56 #[.agg #[.int .u64 0, .int .u64 (x : Int)]] w fun e w' => e = .returned (Nm x false) ∧ Gr w w' := by
  rw [small_wd x h]; exact of_any x (by omega) w
theorem times_ok (n m : Nat) (hn : n < 340282366920938463463374607431768211456) (hm : m < 340282366920938463463374607431768211456) (h : n * m < 340282366920938463463374607431768211456) (w : World) :
    Calls Try.prog 72 #[Nm n false, Nm m false] w fun e w' => e = .returned (Nm (n * m) false) ∧ Gr w w' := by
  have := times_false n m hn hm false w
  rw [Nat.mod_eq_of_lt h, decide_eq_false (by omega)] at this
  exact this
set_option maxHeartbeats 1000000 in
theorem rmul_any (x y : Nat) (hx : x < 18446744073709551616) (hy : y < 18446744073709551616) (w : World) :
    Calls Try.prog 65 #[.int .u64 (x : Int), .int .u64 (y : Int)] w fun e w' => e = .returned (Wd (x * y)) ∧ Gr w w' := by
  have hxy := mul_lt x y hx hy
  go_enter Try.func65, Try.ntmps65
  go_wp2_with fail
  refine (of_small x hx _).mono ?_
  rintro e w1 ⟨rfl, g1⟩
  go_wp2_with fail
  refine (of_small y hy _).mono ?_
  rintro e w2 ⟨rfl, g2⟩
  go_wp2_with fail
  refine (times_ok x y (by omega) (by omega) hxy _).mono ?_
  rintro e w3 ⟨rfl, g3⟩
  go_wp2_with fail
  refine (wide_any (x * y) hxy false _).mono ?_
  rintro e w4 ⟨rfl, g4⟩
  have G := ((g1.trans g2).trans g3).trans g4
  obtain ⟨v0, v1, v2, v3⟩ := G.var2
  go_wp2
  exact bodyPost_ret (v := Wd (x * y)) (by simp [results, Try.results65, go_sem, v0, v1]) rfl ⟨rfl, ((((Gr.refl _).alloc _ _).trans G).setCell (by dsimp only; omega) _).setCell (by dsimp only; omega) _⟩

end Go.Proofs.Ytnhaloeeaejedaa
