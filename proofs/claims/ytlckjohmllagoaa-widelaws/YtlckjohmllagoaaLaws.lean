/- WideLaws: sums, products, texts and roots undo what they should: the walk. -/
import Derived.Test.YtlckjohmllagoaaOrder
namespace Go.Proofs.Ytlckjohmllagoaa
open Go.RowKit

theorem sub_back (a b : Nat) (h : a + b < 340282366920938463463374607431768211456) (w : World) :
    Calls Try.prog 11 #[Wd (a + b), Wd b] w fun e w' => e = .returned (.tuple #[Wd a, .int .i64 0]) ∧ Gr w w' := by
  have := sub_ok (a + b) b h (by omega) w
  rw [Nat.add_sub_cancel] at this; exact this
theorem cmp_ge (a b : Nat) (w : World) :
    Calls Try.prog 16 #[Wd (a + b), Wd a] w fun e w' => ∃ v : Int, e = .returned (.int .i64 v) ∧ 0 ≤ v ∧ Gr w w' := by
  refine (cmp_any (a + b) a w).mono ?_
  rintro e w' ⟨rfl, g⟩
  refine ⟨_, rfl, ?_, g⟩
  unfold cmp3; rw [if_neg (by omega)]; split <;> omega
theorem prt_len (a : Nat) (ha : a < 340282366920938463463374607431768211456) : (prt a).length ≤ 39 := by
  have := prt_form a (Nat.lt_of_lt_of_le ha p39)
  unfold formB at this; simp at this; omega
theorem parse_prt (a : Nat) (ha : a < 340282366920938463463374607431768211456) (w : World) :
    Calls Try.prog 18 #[.string ⟨(prt a).toArray⟩] w fun e w' => e = .returned (.tuple #[Wd a, .int .i64 0]) ∧ Gr w w' := by
  have h10 := Nat.lt_of_lt_of_le ha p39
  have hs : (ByteArray.mk (prt a).toArray).size ≤ maxLen := by
    have := prt_len a ha
    unfold maxLen; show (prt a).toArray.size ≤ _; simp; omega
  refine (parse_go ⟨(prt a).toArray⟩ w hs (prt_form a h10)).mono ?_
  rintro e w' ⟨h1, _, g⟩
  have e1 : val (prt a) = a := val_prt a h10
  have h2 := h1 (by show val (prt a) < _; rw [e1]; exact ha)
  refine ⟨h2.trans ?_, g⟩
  show Ending.returned (.tuple #[Wd (val (prt a)), .int .i64 0]) = _
  rw [e1]
theorem sqrt_sq (x : Nat) (hx : x < 18446744073709551616) (w : World) :
    Calls Try.prog 17 #[Wd (x * x)] w fun e w' => e = .returned (.int .u64 (x : Int)) ∧ Gr w w' := by
  refine (sqrt_any (x * x) (mul_lt x x hx hx) w).mono ?_
  rintro e w' ⟨r, rfl, _, ⟨h1, h2⟩, g⟩
  have e1 : r = x := by
    apply Nat.le_antisymm
    · apply Nat.le_of_not_lt; intro hc
      have := sq_le (show x + 1 ≤ r by omega)
      rw [Nat.add_mul, Nat.mul_add] at this; omega
    · apply Nat.le_of_not_lt; intro hc
      have := sq_le (show r + 1 ≤ x by omega); omega
  rw [e1]; exact ⟨rfl, g⟩
theorem mul_sum (x y z : Nat) (hx : x < 18446744073709551616) (h : y + z < 18446744073709551616) (w : World) :
    Calls Try.prog 14 #[.int .u64 (x : Int), .int .u64 (IntKind.u64.wrap ((y : Int) + (z : Int)))] w fun e w' => e = .returned (Wd (x * (y + z))) ∧ Gr w w' := by
  rw [addc, wrapc _ h]; exact mul_any x (y + z) hx h w
theorem mul_swap (x y : Nat) (hx : x < 18446744073709551616) (hy : y < 18446744073709551616) (w : World) :
    Calls Try.prog 14 #[.int .u64 (y : Int), .int .u64 (x : Int)] w fun e w' => e = .returned (Wd (x * y)) ∧ Gr w w' := by
  rw [Nat.mul_comm]; exact mul_any y x hy hx w
theorem add_mul (x y z : Nat) (hx : x < 18446744073709551616) (h : y + z < 18446744073709551616) (w : World) :
    Calls Try.prog 9 #[Wd (x * y), Wd (x * z)] w fun e w' => e = .returned (.tuple #[Wd (x * (y + z)), .int .i64 0]) ∧ Gr w w' := by
  have h1 := mul_lt x (y + z) hx h
  rw [Nat.mul_add] at h1 ⊢
  exact add_ok (x * y) (x * z) h1 w

set_option maxHeartbeats 4000000 in
theorem laws_okbig (a b x y z : Nat) (ha : a < 340282366920938463463374607431768211456) (hx : x < 18446744073709551616) (hz : z < 18446744073709551616) (h : a + b < 340282366920938463463374607431768211456) (hyz : 18446744073709551616 ≤ y + z) (w : World) :
    Calls Try.prog 7 #[Wd a, Wd b, .int .u64 (x : Int), .int .u64 (y : Int), .int .u64 (z : Int)] w fun e w' => e = .returned (.bool true) ∧ Gr w w' := by
  go_enter Try.func7, Try.ntmps7
  go_wp2_with fail
  refine (add_ok a b h _).mono ?_
  rintro e w1 ⟨rfl, g1⟩
  have G1 := g1.alloc #[.int .u64 (hi (a + b)), .int .u64 (lo (a + b))] 24
  obtain ⟨a0, a1, a2, a3⟩ := G1.args2
  go_wp2_with fail
  refine (sub_back a b h _).mono ?_
  rintro e w2 ⟨rfl, g2⟩
  have G2 := (G1.trans g2).alloc #[.int .u64 (hi (a)), .int .u64 (lo (a))] 24
  obtain ⟨b0, b1, b2, b3⟩ := G2.args2
  obtain ⟨s0, s1, _, _⟩ := (g2.alloc #[.int .u64 (hi (a)), .int .u64 (lo (a))] 24).var2
  clear a0 a1 a2 a3
  go_wp2_with fail
  refine (cmp_ge a b _).mono ?_
  rintro e w3 ⟨v, rfl, hv, g3⟩
  have G3 := G2.trans g3
  obtain ⟨c0, c1, c2, c3⟩ := G3.args2
  clear b0 b1 b2 b3 s0 s1 g1 g2 g3 G1 G2
  go_wp2_with fail
  refine (print_any a ha _).mono ?_
  rintro e w4 ⟨rfl, g4⟩
  go_wp2_with fail
  refine (parse_prt a ha _).mono ?_
  rintro e w5 ⟨rfl, g5⟩
  have G5 := ((G3.trans g4).trans g5).alloc #[.int .u64 (hi (a)), .int .u64 (lo (a))] 24
  obtain ⟨d0, d1, d2, d3⟩ := G5.args2
  clear c0 c1 c2 c3 g4 g5 G3
  go_wp2_with fail
  refine (mul_any x x hx hx _).mono ?_
  rintro e w6 ⟨rfl, g6⟩
  go_wp2_with fail
  refine (sqrt_sq x hx _).mono ?_
  rintro e w7 ⟨rfl, g7⟩
  have G7 := ((((Gr.refl _).alloc _ _).alloc _ _).trans G5).trans (g6.trans g7)
  clear d0 d1 d2 d3 g6 g7 G5
  go_wp2_with fail
  refine (awake_any _).mono ?_
  rintro e w8 ⟨rfl, g8⟩
  go_wp2
  go_ret
  exact ⟨rfl, G7.trans g8⟩

set_option maxHeartbeats 4000000 in
theorem laws_ok (a b x y z : Nat) (ha : a < 340282366920938463463374607431768211456) (hx : x < 18446744073709551616) (hy : y < 18446744073709551616) (hz : z < 18446744073709551616) (h : a + b < 340282366920938463463374607431768211456) (hyz : y + z < 18446744073709551616) (w : World) :
    Calls Try.prog 7 #[Wd a, Wd b, .int .u64 (x : Int), .int .u64 (y : Int), .int .u64 (z : Int)] w fun e w' => e = .returned (.bool true) ∧ Gr w w' := by
  go_enter Try.func7, Try.ntmps7
  go_wp2_with fail
  refine (add_ok a b h _).mono ?_
  rintro e w1 ⟨rfl, g1⟩
  have G1 := g1.alloc #[.int .u64 (hi (a + b)), .int .u64 (lo (a + b))] 24
  obtain ⟨a0, a1, a2, a3⟩ := G1.args2
  go_wp2_with fail
  refine (sub_back a b h _).mono ?_
  rintro e w2 ⟨rfl, g2⟩
  have G2 := (G1.trans g2).alloc #[.int .u64 (hi (a)), .int .u64 (lo (a))] 24
  obtain ⟨b0, b1, b2, b3⟩ := G2.args2
  obtain ⟨s0, s1, _, _⟩ := (g2.alloc #[.int .u64 (hi (a)), .int .u64 (lo (a))] 24).var2
  clear a0 a1 a2 a3
  go_wp2_with fail
  refine (cmp_ge a b _).mono ?_
  rintro e w3 ⟨v, rfl, hv, g3⟩
  have G3 := G2.trans g3
  obtain ⟨c0, c1, c2, c3⟩ := G3.args2
  clear b0 b1 b2 b3 s0 s1 g1 g2 g3 G1 G2
  go_wp2_with fail
  refine (print_any a ha _).mono ?_
  rintro e w4 ⟨rfl, g4⟩
  go_wp2_with fail
  refine (parse_prt a ha _).mono ?_
  rintro e w5 ⟨rfl, g5⟩
  have G5 := ((G3.trans g4).trans g5).alloc #[.int .u64 (hi (a)), .int .u64 (lo (a))] 24
  obtain ⟨d0, d1, d2, d3⟩ := G5.args2
  clear c0 c1 c2 c3 g4 g5 G3
  go_wp2_with fail
  refine (mul_any x x hx hx _).mono ?_
  rintro e w6 ⟨rfl, g6⟩
  go_wp2_with fail
  refine (sqrt_sq x hx _).mono ?_
  rintro e w7 ⟨rfl, g7⟩
  have G7 := ((((Gr.refl _).alloc _ _).alloc _ _).trans G5).trans (g6.trans g7)
  clear d0 d1 d2 d3 g6 g7 G5
  go_wp2_with fail
  refine (mul_any x y hx hy _).mono ?_
  rintro e w8 ⟨rfl, g8⟩
  go_wp2_with fail
  refine (mul_any x z hx hz _).mono ?_
  rintro e w9 ⟨rfl, g9⟩
  go_wp2_with fail
  refine (add_mul x y z hx hyz _).mono ?_
  rintro e w10 ⟨rfl, g10⟩
  have G10 := (((G7.trans g8).trans g9).trans g10).alloc #[.int .u64 (hi (x * (y + z))), .int .u64 (lo (x * (y + z)))] 24
  have c0 : (w10.alloc (.cells #[.int .u64 (hi (x * (y + z))), .int .u64 (lo (x * (y + z)))] 24)).cell? ⟨w10.heap.size, 0, none⟩ = some (.int .u64 (hi (x * (y + z)))) := by simp [go_sem]
  have c1 : (w10.alloc (.cells #[.int .u64 (hi (x * (y + z))), .int .u64 (lo (x * (y + z)))] 24)).cell? ⟨w10.heap.size, 1, none⟩ = some (.int .u64 (lo (x * (y + z)))) := by simp [go_sem]
  clear g8 g9 g10 G7
  go_wp2_with fail
  go_region_held3 (fun w' => w'.cell? ⟨w10.heap.size, 0, none⟩ = some (.int .u64 (hi (x * (y + z)))) ∧ w'.cell? ⟨w10.heap.size, 1, none⟩ = some (.int .u64 (lo (x * (y + z))))) (first | exact ⟨c0, c1⟩ | exact call_keeps2 (by assumption) (by assumption))
    (first
      | (go_at_call 13; refine (awake_any _).mono ?_; rintro e v1 ⟨rfl, k1⟩)
      | (go_at_call_of 14 (IntKind.u64.wrap ((y : Int) + (z : Int))); refine (mul_sum x y z hx hyz _).mono ?_; rintro e v2 ⟨rfl, k2⟩)
      | (go_at_call_of 14 (#[Value.int IntKind.u64 (x : Int), Value.int IntKind.u64 (y : Int)]); refine (mul_any x y hx hy _).mono ?_; rintro e v3 ⟨rfl, k3⟩)
      | (go_at_call_of 14 (#[Value.int IntKind.u64 (y : Int), Value.int IntKind.u64 (x : Int)]); refine (mul_swap x y hx hy _).mono ?_; rintro e v4 ⟨rfl, k4⟩))
  all_goals
    go_wp2
    go_ret
    exact ⟨rfl, by repeat (first | exact G10 | apply Gr.drew | refine Gr.trans ?_ (by assumption))⟩

set_option maxHeartbeats 4000000 in
theorem laws_nobig (a b x y z : Nat) (ha : a < 340282366920938463463374607431768211456) (hb : b < 340282366920938463463374607431768211456) (hx : x < 18446744073709551616) (hz : z < 18446744073709551616) (h : 340282366920938463463374607431768211456 ≤ a + b) (hyz : 18446744073709551616 ≤ y + z) (w : World) :
    Calls Try.prog 7 #[Wd a, Wd b, .int .u64 (x : Int), .int .u64 (y : Int), .int .u64 (z : Int)] w fun e w' => e = .returned (.bool true) ∧ Gr w w' := by
  go_enter Try.func7, Try.ntmps7
  go_wp2_with fail
  refine (add_no a b ha hb h _).mono ?_
  rintro e w3 ⟨rfl, g1⟩
  have G3 := g1.alloc #[.int .u64 0, .int .u64 0] 24
  obtain ⟨c0, c1, c2, c3⟩ := G3.args2
  clear g1
  go_wp2_with fail
  refine (print_any a ha _).mono ?_
  rintro e w4 ⟨rfl, g4⟩
  go_wp2_with fail
  refine (parse_prt a ha _).mono ?_
  rintro e w5 ⟨rfl, g5⟩
  have G5 := ((G3.trans g4).trans g5).alloc #[.int .u64 (hi (a)), .int .u64 (lo (a))] 24
  obtain ⟨d0, d1, d2, d3⟩ := G5.args2
  clear c0 c1 c2 c3 g4 g5 G3
  go_wp2_with fail
  refine (mul_any x x hx hx _).mono ?_
  rintro e w6 ⟨rfl, g6⟩
  go_wp2_with fail
  refine (sqrt_sq x hx _).mono ?_
  rintro e w7 ⟨rfl, g7⟩
  have G7 := ((((Gr.refl _).alloc _ _).alloc _ _).trans G5).trans (g6.trans g7)
  clear d0 d1 d2 d3 g6 g7 G5
  go_wp2_with fail
  refine (awake_any _).mono ?_
  rintro e w8 ⟨rfl, g8⟩
  go_wp2
  go_ret
  exact ⟨rfl, G7.trans g8⟩

set_option maxHeartbeats 4000000 in
theorem laws_no (a b x y z : Nat) (ha : a < 340282366920938463463374607431768211456) (hb : b < 340282366920938463463374607431768211456) (hx : x < 18446744073709551616) (hy : y < 18446744073709551616) (hz : z < 18446744073709551616) (h : 340282366920938463463374607431768211456 ≤ a + b) (hyz : y + z < 18446744073709551616) (w : World) :
    Calls Try.prog 7 #[Wd a, Wd b, .int .u64 (x : Int), .int .u64 (y : Int), .int .u64 (z : Int)] w fun e w' => e = .returned (.bool true) ∧ Gr w w' := by
  go_enter Try.func7, Try.ntmps7
  go_wp2_with fail
  refine (add_no a b ha hb h _).mono ?_
  rintro e w3 ⟨rfl, g1⟩
  have G3 := g1.alloc #[.int .u64 0, .int .u64 0] 24
  obtain ⟨c0, c1, c2, c3⟩ := G3.args2
  clear g1
  go_wp2_with fail
  refine (print_any a ha _).mono ?_
  rintro e w4 ⟨rfl, g4⟩
  go_wp2_with fail
  refine (parse_prt a ha _).mono ?_
  rintro e w5 ⟨rfl, g5⟩
  have G5 := ((G3.trans g4).trans g5).alloc #[.int .u64 (hi (a)), .int .u64 (lo (a))] 24
  obtain ⟨d0, d1, d2, d3⟩ := G5.args2
  clear c0 c1 c2 c3 g4 g5 G3
  go_wp2_with fail
  refine (mul_any x x hx hx _).mono ?_
  rintro e w6 ⟨rfl, g6⟩
  go_wp2_with fail
  refine (sqrt_sq x hx _).mono ?_
  rintro e w7 ⟨rfl, g7⟩
  have G7 := ((((Gr.refl _).alloc _ _).alloc _ _).trans G5).trans (g6.trans g7)
  clear d0 d1 d2 d3 g6 g7 G5
  go_wp2_with fail
  refine (mul_any x y hx hy _).mono ?_
  rintro e w8 ⟨rfl, g8⟩
  go_wp2_with fail
  refine (mul_any x z hx hz _).mono ?_
  rintro e w9 ⟨rfl, g9⟩
  go_wp2_with fail
  refine (add_mul x y z hx hyz _).mono ?_
  rintro e w10 ⟨rfl, g10⟩
  have G10 := (((G7.trans g8).trans g9).trans g10).alloc #[.int .u64 (hi (x * (y + z))), .int .u64 (lo (x * (y + z)))] 24
  have c0 : (w10.alloc (.cells #[.int .u64 (hi (x * (y + z))), .int .u64 (lo (x * (y + z)))] 24)).cell? ⟨w10.heap.size, 0, none⟩ = some (.int .u64 (hi (x * (y + z)))) := by simp [go_sem]
  have c1 : (w10.alloc (.cells #[.int .u64 (hi (x * (y + z))), .int .u64 (lo (x * (y + z)))] 24)).cell? ⟨w10.heap.size, 1, none⟩ = some (.int .u64 (lo (x * (y + z)))) := by simp [go_sem]
  clear g8 g9 g10 G7
  go_wp2_with fail
  go_region_held3 (fun w' => w'.cell? ⟨w10.heap.size, 0, none⟩ = some (.int .u64 (hi (x * (y + z)))) ∧ w'.cell? ⟨w10.heap.size, 1, none⟩ = some (.int .u64 (lo (x * (y + z))))) (first | exact ⟨c0, c1⟩ | exact call_keeps2 (by assumption) (by assumption))
    (first
      | (go_at_call 13; refine (awake_any _).mono ?_; rintro e v1 ⟨rfl, k1⟩)
      | (go_at_call_of 14 (IntKind.u64.wrap ((y : Int) + (z : Int))); refine (mul_sum x y z hx hyz _).mono ?_; rintro e v2 ⟨rfl, k2⟩)
      | (go_at_call_of 14 (#[Value.int IntKind.u64 (x : Int), Value.int IntKind.u64 (y : Int)]); refine (mul_any x y hx hy _).mono ?_; rintro e v3 ⟨rfl, k3⟩)
      | (go_at_call_of 14 (#[Value.int IntKind.u64 (y : Int), Value.int IntKind.u64 (x : Int)]); refine (mul_swap x y hx hy _).mono ?_; rintro e v4 ⟨rfl, k4⟩))
  all_goals
    go_wp2
    go_ret
    exact ⟨rfl, by repeat (first | exact G10 | apply Gr.drew | refine Gr.trans ?_ (by assumption))⟩

theorem laws_any (a b x y z : Nat) (ha : a < 340282366920938463463374607431768211456) (hb : b < 340282366920938463463374607431768211456) (hx : x < 18446744073709551616) (hy : y < 18446744073709551616) (hz : z < 18446744073709551616) (w : World) :
    Calls Try.prog 7 #[Wd a, Wd b, .int .u64 (x : Int), .int .u64 (y : Int), .int .u64 (z : Int)] w fun e w' => e = .returned (.bool true) ∧ Gr w w' := by
  by_cases h : a + b < 340282366920938463463374607431768211456
  · by_cases hyz : y + z < 18446744073709551616
    · exact laws_ok a b x y z ha hx hy hz h hyz w
    · exact laws_okbig a b x y z ha hx hz h (by omega) w
  · by_cases hyz : y + z < 18446744073709551616
    · exact laws_no a b x y z ha hb hx hy hz (by omega) hyz w
    · exact laws_nobig a b x y z ha hb hx hz (by omega) (by omega) w

end Go.Proofs.Ytlckjohmllagoaa
