/- The reference's Mul, as a contract; WideProducts and WideRoots: the walks. -/
import Derived.Test.YtlckjohmllagoaaTimes
import Derived.Test.YtlckjohmllagoaaRefAdd
import Derived.Test.YtlckjohmllagoaaSumsLaw
namespace Go.Proofs.Ytlckjohmllagoaa
open Go.RowKit

theorem of_small (x : Nat) (h : x < 18446744073709551616) (w : World) :
    Calls Try.prog 23 #[.agg #[.int .u64 0, .int .u64 (x : Int)]] w fun e w' => e = .returned (Nm x false) ∧ Gr w w' := by
  rw [small_wd x h]; exact of_any x (by omega) w
theorem times_ok (n m : Nat) (hn : n < 340282366920938463463374607431768211456) (hm : m < 340282366920938463463374607431768211456) (h : n * m < 340282366920938463463374607431768211456) (w : World) :
    Calls Try.prog 30 #[Nm n false, Nm m false] w fun e w' => e = .returned (Nm (n * m) false) ∧ Gr w w' := by
  have := times_false n m hn hm false w
  rw [Nat.mod_eq_of_lt h, decide_eq_false (by omega)] at this
  exact this

set_option maxHeartbeats 1000000 in
theorem rmul_any (x y : Nat) (hx : x < 18446744073709551616) (hy : y < 18446744073709551616) (w : World) :
    Calls Try.prog 15 #[.int .u64 (x : Int), .int .u64 (y : Int)] w fun e w' => e = .returned (Wd (x * y)) ∧ Gr w w' := by
  have hxy := mul_lt x y hx hy
  go_enter Try.func15, Try.ntmps15
  go_wp2_with fail
  refine (of_small x hx _).mono ?_
  rintro e w1 ⟨rfl, g1⟩
  go_wp2_with fail
  refine (of_small y hy _).mono ?_
  rintro e w2 ⟨rfl, g2⟩
  go_wp2_with fail
  refine (times_ok x y (by omega) (by omega) hxy _).mono ?_
  rintro e w3 ⟨rfl, g3⟩
  go_wp2_with fail
  refine (wide_any (x * y) hxy false _).mono ?_
  rintro e w4 ⟨rfl, g4⟩
  have G := ((g1.trans g2).trans g3).trans g4
  obtain ⟨v0, v1, v2, v3⟩ := G.var2
  go_wp2
  exact bodyPost_ret (v := Wd (x * y)) (by simp [results, Try.results15, go_sem, v0, v1]) rfl ⟨rfl, ((((Gr.refl _).alloc _ _).trans G).setCell (by dsimp only; omega) _).setCell (by dsimp only; omega) _⟩

set_option maxHeartbeats 1000000 in
theorem prods_lt (x y a b : Nat) (hx : x < 18446744073709551616) (hy : y < 18446744073709551616) (ha : a < 340282366920938463463374607431768211456) (hb : b < 340282366920938463463374607431768211456) (h : a < b) (w : World) :
    Calls Try.prog 4 #[.int .u64 (x : Int), .int .u64 (y : Int), Wd a, Wd b] w fun e w' => e = .returned (.bool true) ∧ Gr w w' := by
  have E : Hid (cmp3 a b = -1) := by unfold Hid cmp3; rw [if_pos h]
  have l1 : Hid (a < b) := h
  clear h
  go_enter Try.func4, Try.ntmps4
  go_wp2_with fail
  refine (less_yes a b ha hb l1.out _).mono ?_
  rintro e w1 ⟨rfl, g1⟩
  obtain ⟨a0, a1, a2, a3⟩ := g1.args2
  go_wp2_with fail
  refine (less_not b a hb ha (by have := l1.out; omega) _).mono ?_
  rintro e w2 ⟨rfl, g2⟩
  clear a0 a1 a2 a3
  go_wp2_with fail
  refine (awake_any _).mono ?_
  rintro e w3 ⟨rfl, g3⟩
  go_wp2_with fail
  refine (mul_any x y hx hy _).mono ?_
  rintro e w4 ⟨rfl, g4⟩
  go_wp2_with fail
  refine (rmul_any x y hx hy _).mono ?_
  rintro e w5 ⟨rfl, g5⟩
  have G := (((g1.trans g2).trans g3).trans g4).trans g5
  obtain ⟨b0, b1, b2, b3⟩ := G.args2
  clear g1 g2 g3 g4 g5
  go_wp2_with fail
  refine (cmp_val a b (-1) E.out _).mono ?_
  rintro e w6 ⟨rfl, g6⟩
  go_wp2
  go_ret
  exact ⟨rfl, (((Gr.refl _).alloc _ _).alloc _ _).trans (G.trans g6)⟩

set_option maxHeartbeats 1000000 in
theorem prods_gt (x y a b : Nat) (hx : x < 18446744073709551616) (hy : y < 18446744073709551616) (ha : a < 340282366920938463463374607431768211456) (hb : b < 340282366920938463463374607431768211456) (h : b < a) (w : World) :
    Calls Try.prog 4 #[.int .u64 (x : Int), .int .u64 (y : Int), Wd a, Wd b] w fun e w' => e = .returned (.bool true) ∧ Gr w w' := by
  have E : Hid (cmp3 a b = 1) := by unfold Hid cmp3; rw [if_neg (by omega), if_neg (by omega)]
  have l1 : Hid (b < a) := h
  clear h
  go_enter Try.func4, Try.ntmps4
  go_wp2_with fail
  refine (less_not a b ha hb (by have := l1.out; omega) _).mono ?_
  rintro e w1 ⟨rfl, g1⟩
  obtain ⟨a0, a1, a2, a3⟩ := g1.args2
  go_wp2_with fail
  refine (less_yes b a hb ha l1.out _).mono ?_
  rintro e w2 ⟨rfl, g2⟩
  clear a0 a1 a2 a3
  go_wp2_with fail
  refine (awake_any _).mono ?_
  rintro e w3 ⟨rfl, g3⟩
  go_wp2_with fail
  refine (mul_any x y hx hy _).mono ?_
  rintro e w4 ⟨rfl, g4⟩
  go_wp2_with fail
  refine (rmul_any x y hx hy _).mono ?_
  rintro e w5 ⟨rfl, g5⟩
  have G := (((g1.trans g2).trans g3).trans g4).trans g5
  obtain ⟨b0, b1, b2, b3⟩ := G.args2
  clear g1 g2 g3 g4 g5
  go_wp2_with fail
  refine (cmp_val a b (1) E.out _).mono ?_
  rintro e w6 ⟨rfl, g6⟩
  go_wp2
  go_ret
  exact ⟨rfl, (((Gr.refl _).alloc _ _).alloc _ _).trans (G.trans g6)⟩

set_option maxHeartbeats 1000000 in
theorem prods_eq (x y a b : Nat) (hx : x < 18446744073709551616) (hy : y < 18446744073709551616) (ha : a < 340282366920938463463374607431768211456) (hb : b < 340282366920938463463374607431768211456) (h : a = b) (w : World) :
    Calls Try.prog 4 #[.int .u64 (x : Int), .int .u64 (y : Int), Wd a, Wd b] w fun e w' => e = .returned (.bool true) ∧ Gr w w' := by
  have E : Hid (cmp3 a b = 0) := by unfold Hid cmp3; rw [if_neg (by omega), if_pos h]
  have l1 : Hid (a = b) := h
  clear h
  go_enter Try.func4, Try.ntmps4
  go_wp2_with fail
  refine (less_not a b ha hb (by have := l1.out; omega) _).mono ?_
  rintro e w1 ⟨rfl, g1⟩
  obtain ⟨a0, a1, a2, a3⟩ := g1.args2
  go_wp2_with fail
  refine (less_not b a hb ha (by have := l1.out; omega) _).mono ?_
  rintro e w2 ⟨rfl, g2⟩
  clear a0 a1 a2 a3
  go_wp2_with fail
  refine (awake_any _).mono ?_
  rintro e w3 ⟨rfl, g3⟩
  go_wp2_with fail
  refine (mul_any x y hx hy _).mono ?_
  rintro e w4 ⟨rfl, g4⟩
  go_wp2_with fail
  refine (rmul_any x y hx hy _).mono ?_
  rintro e w5 ⟨rfl, g5⟩
  have G := (((g1.trans g2).trans g3).trans g4).trans g5
  obtain ⟨b0, b1, b2, b3⟩ := G.args2
  clear g1 g2 g3 g4 g5
  go_wp2_with fail
  refine (cmp_val a b (0) E.out _).mono ?_
  rintro e w6 ⟨rfl, g6⟩
  go_wp2
  go_ret
  exact ⟨rfl, (((Gr.refl _).alloc _ _).alloc _ _).trans (G.trans g6)⟩

theorem prods_any (x y a b : Nat) (hx : x < 18446744073709551616) (hy : y < 18446744073709551616) (ha : a < 340282366920938463463374607431768211456) (hb : b < 340282366920938463463374607431768211456) (w : World) :
    Calls Try.prog 4 #[.int .u64 (x : Int), .int .u64 (y : Int), Wd a, Wd b] w fun e w' => e = .returned (.bool true) ∧ Gr w w' := by
  by_cases h1 : a < b
  · exact prods_lt x y a b hx hy ha hb h1 w
  by_cases h2 : b < a
  · exact prods_gt x y a b hx hy ha hb h2 w
  · exact prods_eq x y a b hx hy ha hb (by omega) w

end Go.Proofs.Ytlckjohmllagoaa
