/- WideSums: sums and differences are the numbers that they are, or are refused: the walk. -/
import Derived.Test.YtlckjohmllagoaaRAdd
import Derived.Test.YtlckjohmllagoaaRAddNo
namespace Go.Proofs.Ytlckjohmllagoaa
open Go.RowKit

theorem radd_back (a b : Nat) (ha : a < 340282366920938463463374607431768211456) (h : b ≤ a) (w : World) :
    Calls Try.prog 10 #[Wd (a - b), Wd b] w fun e w' => e = .returned (.tuple #[Wd a, .int .i64 0]) ∧ Gr w w' := by
  have := radd_ok (a - b) b (by omega) w
  rw [Nat.sub_add_cancel h] at this; exact this
theorem less_yes (a b : Nat) (ha : a < 340282366920938463463374607431768211456) (hb : b < 340282366920938463463374607431768211456) (h : a < b) (w : World) :
    Calls Try.prog 12 #[Wd a, Wd b] w fun e w' => e = .returned (.bool true) ∧ Gr w w' := by
  have := less_any a b ha hb w
  rw [decide_eq_true h] at this; exact this
theorem less_not (a b : Nat) (ha : a < 340282366920938463463374607431768211456) (hb : b < 340282366920938463463374607431768211456) (h : b ≤ a) (w : World) :
    Calls Try.prog 12 #[Wd a, Wd b] w fun e w' => e = .returned (.bool false) ∧ Gr w w' := by
  have := less_any a b ha hb w
  rw [decide_eq_false (by omega)] at this; exact this

set_option maxHeartbeats 2000000 in
theorem sums_ok_lt (a b : Nat) (ha : a < 340282366920938463463374607431768211456) (hb : b < 340282366920938463463374607431768211456) (h : a + b < 340282366920938463463374607431768211456) (h2 : a < b) (w : World) :
    Calls Try.prog 3 #[Wd a, Wd b] w fun e w' => e = .returned (.bool true) ∧ Gr w w' := by
  go_enter Try.func3, Try.ntmps3
  go_wp2_with fail
  refine (add_ok a b h _).mono ?_
  rintro e w1 ⟨rfl, g1⟩
  have G1 := g1.alloc #[.int .u64 (hi (a + b)), .int .u64 (lo (a + b))] 24
  obtain ⟨a0, a1, a2, a3⟩ := G1.args2
  go_wp2_with fail
  refine (radd_ok a b h _).mono ?_
  rintro e w2 ⟨rfl, g2⟩
  have G2 := (G1.trans g2).alloc #[.int .u64 (hi (a + b)), .int .u64 (lo (a + b))] 24
  obtain ⟨b0, b1, b2, b3⟩ := G2.args2
  obtain ⟨s0, s1, _, _⟩ := (g2.alloc #[.int .u64 (hi (a + b)), .int .u64 (lo (a + b))] 24).var2
  clear a0 a1 a2 a3
  go_wp2_with fail
  refine (sub_no a b hb h2 _).mono ?_
  rintro e w3 ⟨rfl, g3⟩
  have G3 := (G2.trans g3).alloc #[.int .u64 0, .int .u64 0] 24
  obtain ⟨c0, c1, c2, c3⟩ := G3.args2
  clear b0 b1 b2 b3 s0 s1
  go_wp2_with fail
  refine (less_yes a b ha hb h2 _).mono ?_
  rintro e w4 ⟨rfl, g4⟩
  have G4 := G3.trans g4
  obtain ⟨d0, d1, d2, d3⟩ := G4.args2
  obtain ⟨e0, e1, _, _⟩ := g4.var2
  clear c0 c1 c2 c3
  go_wp2_with fail
  refine (awake_any _).mono ?_
  rintro e w5 ⟨rfl, g5⟩
  obtain ⟨f0, f1, _, _⟩ := (g4.trans g5).var2
  clear d0 d1 d2 d3 e0 e1
  go_wp2
  go_ret
  exact ⟨rfl, (((Gr.refl _).alloc _ _).alloc _ _).trans (G4.trans g5)⟩

set_option maxHeartbeats 2000000 in
theorem sums_ok_ge (a b : Nat) (ha : a < 340282366920938463463374607431768211456) (hb : b < 340282366920938463463374607431768211456) (h : a + b < 340282366920938463463374607431768211456) (h2 : b ≤ a) (w : World) :
    Calls Try.prog 3 #[Wd a, Wd b] w fun e w' => e = .returned (.bool true) ∧ Gr w w' := by
  go_enter Try.func3, Try.ntmps3
  go_wp2_with fail
  refine (add_ok a b h _).mono ?_
  rintro e w1 ⟨rfl, g1⟩
  have G1 := g1.alloc #[.int .u64 (hi (a + b)), .int .u64 (lo (a + b))] 24
  obtain ⟨a0, a1, a2, a3⟩ := G1.args2
  go_wp2_with fail
  refine (radd_ok a b h _).mono ?_
  rintro e w2 ⟨rfl, g2⟩
  have G2 := (G1.trans g2).alloc #[.int .u64 (hi (a + b)), .int .u64 (lo (a + b))] 24
  obtain ⟨b0, b1, b2, b3⟩ := G2.args2
  obtain ⟨s0, s1, _, _⟩ := (g2.alloc #[.int .u64 (hi (a + b)), .int .u64 (lo (a + b))] 24).var2
  clear a0 a1 a2 a3
  go_wp2_with fail
  refine (sub_ok a b ha h2 _).mono ?_
  rintro e w3 ⟨rfl, g3⟩
  have G3 := (G2.trans g3).alloc #[.int .u64 (hi (a - b)), .int .u64 (lo (a - b))] 24
  obtain ⟨c0, c1, c2, c3⟩ := G3.args2
  clear b0 b1 b2 b3 s0 s1
  go_wp2_with fail
  refine (less_not a b ha hb h2 _).mono ?_
  rintro e w4 ⟨rfl, g4⟩
  have G4 := G3.trans g4
  obtain ⟨d0, d1, d2, d3⟩ := G4.args2
  obtain ⟨e0, e1, _, _⟩ := g4.var2
  clear c0 c1 c2 c3
  go_wp2_with fail
  refine (radd_back a b ha h2 _).mono ?_
  rintro e w5 ⟨rfl, g5⟩
  have G5 := (G4.trans g5).alloc #[.int .u64 (hi (a)), .int .u64 (lo (a))] 24
  clear d0 d1 d2 d3 e0 e1
  go_wp2_with fail
  refine (awake_any _).mono ?_
  rintro e w6 ⟨rfl, g6⟩
  obtain ⟨f0, f1, f2, f3⟩ := (G5.trans g6).args2
  obtain ⟨k0, k1, _, _⟩ := g6.var2
  go_wp2
  go_ret
  exact ⟨rfl, (((Gr.refl _).alloc _ _).alloc _ _).trans (G5.trans g6)⟩

set_option maxHeartbeats 2000000 in
theorem sums_no_lt (a b : Nat) (ha : a < 340282366920938463463374607431768211456) (hb : b < 340282366920938463463374607431768211456) (h : 340282366920938463463374607431768211456 ≤ a + b) (h2 : a < b) (w : World) :
    Calls Try.prog 3 #[Wd a, Wd b] w fun e w' => e = .returned (.bool true) ∧ Gr w w' := by
  go_enter Try.func3, Try.ntmps3
  go_wp2_with fail
  refine (add_no a b ha hb h _).mono ?_
  rintro e w1 ⟨rfl, g1⟩
  have G1 := g1.alloc #[.int .u64 0, .int .u64 0] 24
  obtain ⟨a0, a1, a2, a3⟩ := G1.args2
  go_wp2_with fail
  refine (radd_no a b ha hb h _).mono ?_
  rintro e w2 ⟨rfl, g2⟩
  have G2 := (G1.trans g2).alloc #[.int .u64 0, .int .u64 0] 24
  obtain ⟨b0, b1, b2, b3⟩ := G2.args2
  obtain ⟨s0, s1, _, _⟩ := (g2.alloc #[.int .u64 0, .int .u64 0] 24).var2
  clear a0 a1 a2 a3
  go_wp2_with fail
  refine (sub_no a b hb h2 _).mono ?_
  rintro e w3 ⟨rfl, g3⟩
  have G3 := (G2.trans g3).alloc #[.int .u64 0, .int .u64 0] 24
  obtain ⟨c0, c1, c2, c3⟩ := G3.args2
  clear b0 b1 b2 b3 s0 s1
  go_wp2_with fail
  refine (less_yes a b ha hb h2 _).mono ?_
  rintro e w4 ⟨rfl, g4⟩
  have G4 := G3.trans g4
  obtain ⟨d0, d1, d2, d3⟩ := G4.args2
  obtain ⟨e0, e1, _, _⟩ := g4.var2
  clear c0 c1 c2 c3
  go_wp2_with fail
  refine (awake_any _).mono ?_
  rintro e w5 ⟨rfl, g5⟩
  obtain ⟨f0, f1, _, _⟩ := (g4.trans g5).var2
  clear d0 d1 d2 d3 e0 e1
  go_wp2
  go_ret
  exact ⟨rfl, (((Gr.refl _).alloc _ _).alloc _ _).trans (G4.trans g5)⟩

set_option maxHeartbeats 2000000 in
theorem sums_no_ge (a b : Nat) (ha : a < 340282366920938463463374607431768211456) (hb : b < 340282366920938463463374607431768211456) (h : 340282366920938463463374607431768211456 ≤ a + b) (h2 : b ≤ a) (w : World) :
    Calls Try.prog 3 #[Wd a, Wd b] w fun e w' => e = .returned (.bool true) ∧ Gr w w' := by
  go_enter Try.func3, Try.ntmps3
  go_wp2_with fail
  refine (add_no a b ha hb h _).mono ?_
  rintro e w1 ⟨rfl, g1⟩
  have G1 := g1.alloc #[.int .u64 0, .int .u64 0] 24
  obtain ⟨a0, a1, a2, a3⟩ := G1.args2
  go_wp2_with fail
  refine (radd_no a b ha hb h _).mono ?_
  rintro e w2 ⟨rfl, g2⟩
  have G2 := (G1.trans g2).alloc #[.int .u64 0, .int .u64 0] 24
  obtain ⟨b0, b1, b2, b3⟩ := G2.args2
  obtain ⟨s0, s1, _, _⟩ := (g2.alloc #[.int .u64 0, .int .u64 0] 24).var2
  clear a0 a1 a2 a3
  go_wp2_with fail
  refine (sub_ok a b ha h2 _).mono ?_
  rintro e w3 ⟨rfl, g3⟩
  have G3 := (G2.trans g3).alloc #[.int .u64 (hi (a - b)), .int .u64 (lo (a - b))] 24
  obtain ⟨c0, c1, c2, c3⟩ := G3.args2
  clear b0 b1 b2 b3 s0 s1
  go_wp2_with fail
  refine (less_not a b ha hb h2 _).mono ?_
  rintro e w4 ⟨rfl, g4⟩
  have G4 := G3.trans g4
  obtain ⟨d0, d1, d2, d3⟩ := G4.args2
  obtain ⟨e0, e1, _, _⟩ := g4.var2
  clear c0 c1 c2 c3
  go_wp2_with fail
  refine (radd_back a b ha h2 _).mono ?_
  rintro e w5 ⟨rfl, g5⟩
  have G5 := (G4.trans g5).alloc #[.int .u64 (hi (a)), .int .u64 (lo (a))] 24
  clear d0 d1 d2 d3 e0 e1
  go_wp2_with fail
  refine (awake_any _).mono ?_
  rintro e w6 ⟨rfl, g6⟩
  obtain ⟨f0, f1, f2, f3⟩ := (G5.trans g6).args2
  obtain ⟨k0, k1, _, _⟩ := g6.var2
  go_wp2
  go_ret
  exact ⟨rfl, (((Gr.refl _).alloc _ _).alloc _ _).trans (G5.trans g6)⟩

theorem sums_any (a b : Nat) (ha : a < 340282366920938463463374607431768211456) (hb : b < 340282366920938463463374607431768211456) (w : World) :
    Calls Try.prog 3 #[Wd a, Wd b] w fun e w' => e = .returned (.bool true) ∧ Gr w w' := by
  by_cases h : a + b < 340282366920938463463374607431768211456
  · by_cases h2 : a < b
    · exact sums_ok_lt a b ha hb h h2 w
    · exact sums_ok_ge a b ha hb h (by omega) w
  · by_cases h2 : a < b
    · exact sums_no_lt a b ha hb (by omega) h2 w
    · exact sums_no_ge a b ha hb (by omega) (by omega) w

end Go.Proofs.Ytlckjohmllagoaa
