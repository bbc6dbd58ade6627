/- The law's own awake: the document's examples hold. -/
import Derived.Test.YtlckjohmllagoaaParse
import Derived.Test.YtlckjohmllagoaaPrint
import Derived.Test.YtlckjohmllagoaaRoot
namespace Go.Proofs.Ytlckjohmllagoaa
open Go.RowKit

theorem root_15 (r : Nat) (h : IsRoot 15 r) : r = 3 := by
  obtain ⟨h1, h2⟩ := h
  have : r < 4 := by
    apply Nat.lt_of_not_le; intro hc
    have := sq_le hc; omega
  have : 3 ≤ r := by
    apply Nat.le_of_not_lt; intro hc
    have := sq_le (show r + 1 ≤ 3 by omega); omega
  omega

/-! The calls that awake makes, in the very words that the walk shows. -/
theorem aw_add1 (w : World) : Calls Try.prog 9 #[.agg #[.int .u64 0, .int .u64 18446744073709551615], .agg #[.int .u64 0, .int .u64 1]] w fun e w' =>
    e = .returned (.tuple #[.agg #[.int .u64 1, .int .u64 0], .int .i64 0]) ∧ Gr w w' := add_ok 18446744073709551615 1 (by omega) w
theorem aw_add2 (w : World) : Calls Try.prog 9 #[.agg #[.int .u64 18446744073709551615, .int .u64 18446744073709551615], .agg #[.int .u64 0, .int .u64 1]] w fun e w' =>
    e = .returned (.tuple #[.agg #[.int .u64 0, .int .u64 0], .int .i64 10]) ∧ Gr w w' := add_no 340282366920938463463374607431768211455 1 (by omega) (by omega) (by omega) w
theorem aw_sub (w : World) : Calls Try.prog 11 #[.agg #[.int .u64 0, .int .u64 3], .agg #[.int .u64 0, .int .u64 4]] w fun e w' =>
    e = .returned (.tuple #[.agg #[.int .u64 0, .int .u64 0], .int .i64 10]) ∧ Gr w w' := sub_no 3 4 (by omega) (by omega) w
theorem aw_mul (w : World) : Calls Try.prog 14 #[.int .u64 18446744073709551615, .int .u64 18446744073709551615] w fun e w' =>
    e = .returned (.agg #[.int .u64 18446744073709551614, .int .u64 1]) ∧ Gr w w' := mul_any 18446744073709551615 18446744073709551615 (by omega) (by omega) w
theorem aw_cmp (w : World) : Calls Try.prog 16 #[.agg #[.int .u64 1, .int .u64 0], .agg #[.int .u64 0, .int .u64 9]] w fun e w' =>
    e = .returned (.int .i64 1) ∧ Gr w w' := cmp_any 18446744073709551616 9 w
theorem aw_sqrt (w : World) : Calls Try.prog 17 #[.agg #[.int .u64 0, .int .u64 15]] w fun e w' =>
    e = .returned (.int .u64 3) ∧ Gr w w' := by
  refine (sqrt_any 15 (by omega) w).mono ?_
  rintro e w' ⟨r, rfl, _, h, g⟩
  rw [root_15 r h]
  exact ⟨rfl, g⟩
theorem aw_print (w : World) : Calls Try.prog 20 #[.agg #[.int .u64 1, .int .u64 0]] w fun e w' =>
    e = .returned (.string ⟨#[49, 56, 52, 52, 54, 55, 52, 52, 48, 55, 51, 55, 48, 57, 53, 53, 49, 54, 49, 54]⟩) ∧ Gr w w' := by
  have h : prt 18446744073709551616 = [49, 56, 52, 52, 54, 55, 52, 52, 48, 55, 51, 55, 48, 57, 53, 53, 49, 54, 49, 54] := by decide +kernel
  have := print_any 18446744073709551616 (by omega) w
  rw [h] at this
  exact this
theorem aw_parse1 (w : World) : Calls Try.prog 18 #[.string ⟨#[49, 56, 52, 52, 54, 55, 52, 52, 48, 55, 51, 55, 48, 57, 53, 53, 49, 54, 49, 54]⟩] w fun e w' =>
    e = .returned (.tuple #[.agg #[.int .u64 1, .int .u64 0], .int .i64 0]) ∧ Gr w w' := by
  have h : val [49, 56, 52, 52, 54, 55, 52, 52, 48, 55, 51, 55, 48, 57, 53, 53, 49, 54, 49, 54] = 18446744073709551616 := by decide +kernel
  refine (parse_go ⟨#[49, 56, 52, 52, 54, 55, 52, 52, 48, 55, 51, 55, 48, 57, 53, 53, 49, 54, 49, 54]⟩ w (by unfold maxLen; decide) (by decide +kernel)).mono ?_
  rintro e w' ⟨h1, _, g⟩
  have h2 := h1 (by show val [49, 56, 52, 52, 54, 55, 52, 52, 48, 55, 51, 55, 48, 57, 53, 53, 49, 54, 49, 54] < _; rw [h]; omega)
  refine ⟨h2.trans ?_, g⟩
  show Ending.returned (.tuple #[Wd (val [49, 56, 52, 52, 54, 55, 52, 52, 48, 55, 51, 55, 48, 57, 53, 53, 49, 54, 49, 54]), .int .i64 0]) = _
  rw [h]; rfl
theorem aw_parse2 (w : World) : Calls Try.prog 18 #[.string ⟨#[48, 48, 55]⟩] w fun e w' =>
    e = .returned (.tuple #[.agg #[.int .u64 0, .int .u64 0], .int .i64 11]) ∧ Gr w w' :=
  parse_bad ⟨#[48, 48, 55]⟩ w (by unfold maxLen; decide) (by decide +kernel)

set_option maxHeartbeats 2000000 in
theorem awake_any (w : World) : Calls Try.prog 13 #[] w fun e w' => e = .returned (.bool true) ∧ Gr w w' := by
  go_enter Try.func13, Try.ntmps13
  go_wp2_with fail
  refine (loc _ _).mono ?_
  rintro e w1 ⟨rfl, g1⟩
  go_wp2_with fail
  refine (loc _ _).mono ?_
  rintro e w2 ⟨rfl, g2⟩
  go_wp2_with fail
  refine (aw_add1 _).mono ?_
  rintro e w3 ⟨rfl, g3⟩
  go_wp2_with fail
  refine (loc _ _).mono ?_
  rintro e w4 ⟨rfl, g4⟩
  go_wp2_with fail
  refine (aw_add2 _).mono ?_
  rintro e w5 ⟨rfl, g5⟩
  go_wp2_with fail
  refine (loc _ _).mono ?_
  rintro e w6 ⟨rfl, g6⟩
  go_wp2_with fail
  refine (loc _ _).mono ?_
  rintro e w7 ⟨rfl, g7⟩
  go_wp2_with fail
  refine (aw_sub _).mono ?_
  rintro e w8 ⟨rfl, g8⟩
  go_wp2_with fail
  refine (aw_parse1 _).mono ?_
  rintro e w9 ⟨rfl, g9⟩
  go_wp2_with fail
  refine (aw_parse2 _).mono ?_
  rintro e w10 ⟨rfl, g10⟩
  have GA : Gr (w3.alloc (.cells #[.int .u64 1, .int .u64 0] 24)) (w10.alloc (.cells #[.int .u64 0, .int .u64 0] 24)) := by
    repeat (first | exact Gr.refl _ | exact Gr.trans ?_ g10 | apply Gr.alloc | refine Gr.trans ?_ g10 | refine Gr.trans ?_ g9 | refine Gr.trans ?_ g8 | refine Gr.trans ?_ g7 | refine Gr.trans ?_ g6 | refine Gr.trans ?_ g5 | refine Gr.trans ?_ g4)
  have G0 : Gr w (w10.alloc (.cells #[.int .u64 0, .int .u64 0] 24)) := by
    refine Gr.trans ?_ GA
    repeat (first | exact Gr.refl _ | apply Gr.alloc | refine Gr.trans ?_ g3 | refine Gr.trans ?_ g2 | refine Gr.trans ?_ g1)
  obtain ⟨c0, c1, _, _⟩ := GA.var2
  obtain ⟨d0, d1, _, _⟩ := (g10.alloc #[.int .u64 0, .int .u64 0] 24).var2
  clear GA g1 g2 g3 g4 g5 g6 g7 g8 g9 g10
  go_wp2_with fail
  clear d0 d1
  go_region_held3 (fun w' => w'.cell? ⟨w3.heap.size, 0, none⟩ = some (.int .u64 1) ∧ w'.cell? ⟨w3.heap.size, 1, none⟩ = some (.int .u64 0)) (first | exact ⟨c0, c1⟩ | exact call_keeps2 (by assumption) (by assumption))
    (first
      | (go_at_call 14; refine (aw_mul _).mono ?_; rintro e v1 ⟨rfl, k1⟩)
      | (go_at_call 28; refine (loc _ _).mono ?_; rintro e v2 ⟨rfl, k2⟩)
      | (go_at_call 16; refine (aw_cmp _).mono ?_; rintro e v3 ⟨rfl, k3⟩)
      | (go_at_call 17; refine (aw_sqrt _).mono ?_; rintro e v4 ⟨rfl, k4⟩)
      | (go_at_call 20; refine (aw_print _).mono ?_; rintro e v5 ⟨rfl, k5⟩))
  all_goals
    go_wp2
    go_ret
    exact ⟨rfl, by repeat (first | exact G0 | apply Gr.drew | refine Gr.trans ?_ (by assumption))⟩

end Go.Proofs.Ytlckjohmllagoaa
