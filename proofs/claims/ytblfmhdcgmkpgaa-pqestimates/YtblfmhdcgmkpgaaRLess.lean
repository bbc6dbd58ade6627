/- The reference's Cmp and Less, as contracts. -/
import Derived.Test.YtblfmhdcgmkpgaaNum
import Derived.Test.YtblfmhdcgmkpgaaPlus
import Derived.BigQuiet
namespace Go.Proofs.Ytblfmhdcgmkpgaa
open Go.RowKit

theorem ret_int {k : IntKind} {a b : Int} (h : a = b) : Ending.returned (.int k a) = .returned (.int k b) := by rw [h]
theorem up_digit (a t : Nat) : a / 65536 ^ t = a / 65536 ^ (t + 1) * 65536 + a / 65536 ^ t % 65536 := by
  rw [Nat.pow_succ, ← Nat.div_div_eq_div_mul]; omega
theorem lt_of_div {a b d : Nat} (h : a / d < b / d) : a < b := by
  apply Nat.lt_of_not_le; intro hc
  exact absurd (Nat.div_le_div_right (c := d) hc) (by omega)

set_option maxHeartbeats 2000000 in
theorem refcmp_any (a b : Nat) (ha : a < 340282366920938463463374607431768211456) (hb : b < 340282366920938463463374607431768211456) (o p : Bool) (w : World) :
    Calls Try.prog 44 #[Nm a o, Nm b p] w fun e w' => e = .returned (.int .i64 (cmp3 a b)) ∧ Gr w w' := by
  have n0 := (NumAt.new w a o 79).call ((Gr.refl _).alloc #[.int .i64 (dd b 0), .int .i64 (dd b 1), .int .i64 (dd b 2), .int .i64 (dd b 3), .int .i64 (dd b 4), .int .i64 (dd b 5), .int .i64 (dd b 6), .int .i64 (dd b 7), .bool p] 79)
  have n1 := NumAt.new (w.alloc (.cells #[.int .i64 (dd a 0), .int .i64 (dd a 1), .int .i64 (dd a 2), .int .i64 (dd a 3), .int .i64 (dd a 4), .int .i64 (dd a 5), .int .i64 (dd a 6), .int .i64 (dd a 7), .bool o] 79)) b p 79
  simp only [World.size_alloc] at n1
  go_enter Try.func44, Try.ntmps44
  go_wp2
  go_loopw [5] (fun iv w' => ∃ z : Int, ∃ k : Nat, iv = .int .i64 z ∧ z = (k : Int) - 1 ∧ k ≤ 8 ∧ Hid (a / 65536 ^ k = b / 65536 ^ k) ∧ Gr w w' ∧ NumAt w' w.heap.size a o ∧ NumAt w' (w.heap.size + 1) b p) (fun iv _ => (intOf iv + 1).toNat)
  case atStart =>
    refine ⟨7, 8, rfl, by omega, by omega, ?_, ((Gr.refl _).alloc _ _).alloc _ _, n0, n1⟩
    show a / 65536 ^ 8 = b / 65536 ^ 8
    rw [Nat.div_eq_of_lt ha, Nat.div_eq_of_lt hb]
  case round =>
    clear n0 n1
    obtain ⟨z, k, rfl, hz, hk, X, hG, hA, hB⟩ := hrel
    cases k with
    | zero =>
      have E : Hid (cmp3 a b = 0) := by
        have := X.out
        simp at this
        subst this; unfold Hid cmp3; simp
      have hz' : z < 0 := by omega
      clear hz X hA hB
      go_wp2
      go_ret
      exact ⟨ret_int E.out.symm, hG⟩
    | succ t =>
      have hzt : z = (t : Int) := by omega
      subst hzt
      obtain ⟨e, he, he1, he2⟩ := dd_nat a t
      obtain ⟨f, hf, hf1, hf2⟩ := dd_nat b t
      have ca := hA.d t (by omega)
      have cb := hB.d t (by omega)
      rw [he] at ca; rw [hf] at cb
      have ua := up_digit a t
      have ub := up_digit b t
      rw [← he2] at ua; rw [← hf2] at ub
      have hX := X.out
      by_cases hlt : e < f
      · have E : Hid (cmp3 a b = -1) := by unfold Hid cmp3; rw [if_pos (lt_of_div (d := 65536 ^ t) (by omega))]
        have g1 : ((e : Int) == (f : Int)) = false := by rw [beq_eq_false_iff_ne]; omega
        clear he he2 hf hf2 ua ub hX X hz hA hB
        go_wp2
        go_quiet (fail)
        go_wp2
        go_quiet (fail)
        go_wp2
        go_ret
        exact ⟨ret_int E.out.symm, (hG.drewN _).drewN _⟩
      by_cases hgt : f < e
      · have hba : b < a := lt_of_div (d := 65536 ^ t) (by omega)
        have E : Hid (cmp3 a b = 1) := by unfold Hid cmp3; rw [if_neg (by omega), if_neg (by omega)]
        have g1 : ((e : Int) == (f : Int)) = false := by rw [beq_eq_false_iff_ne]; omega
        clear he he2 hf hf2 ua ub hX X hz hA hB hba
        go_wp2
        go_quiet (fail)
        go_wp2
        go_quiet (fail)
        go_wp2
        go_ret
        exact ⟨ret_int E.out.symm, (hG.drewN _).drewN _⟩
      · have hef : f = e := by omega
        subst hef
        have E : Hid (a / 65536 ^ t = b / 65536 ^ t) := by unfold Hid; omega
        clear he he2 hf hf2 ua ub hX X hz hlt hgt
        go_wp2
        go_quiet (fail)
        go_wp2
        refine ⟨⟨(t : Int) - 1, t, by go_num, rfl, by omega, E, hG.drewN _, hA.call ((Gr.refl _).drewN _), hB.call ((Gr.refl _).drewN _)⟩, by simp [intOf]⟩

set_option maxHeartbeats 1000000 in
theorem less_any (a b : Nat) (ha : a < 340282366920938463463374607431768211456) (hb : b < 340282366920938463463374607431768211456) (w : World) :
    Calls Try.prog 27 #[Wd a, Wd b] w fun e w' => e = .returned (.bool (decide (a < b))) ∧ Gr w w' := by
  have c0 : ((w.alloc (.cells #[.int .u64 (hi a), .int .u64 (lo a)] 51)).alloc (.cells #[.int .u64 (hi b), .int .u64 (lo b)] 51)).cell? ⟨w.heap.size, 0, none⟩ = some (.int .u64 (hi a)) := by simp [go_sem]
  have c1 : ((w.alloc (.cells #[.int .u64 (hi a), .int .u64 (lo a)] 51)).alloc (.cells #[.int .u64 (hi b), .int .u64 (lo b)] 51)).cell? ⟨w.heap.size, 1, none⟩ = some (.int .u64 (lo a)) := by simp [go_sem]
  have c2 : ((w.alloc (.cells #[.int .u64 (hi a), .int .u64 (lo a)] 51)).alloc (.cells #[.int .u64 (hi b), .int .u64 (lo b)] 51)).cell? ⟨w.heap.size + 1, 0, none⟩ = some (.int .u64 (hi b)) := by simp [go_sem]
  have c3 : ((w.alloc (.cells #[.int .u64 (hi a), .int .u64 (lo a)] 51)).alloc (.cells #[.int .u64 (hi b), .int .u64 (lo b)] 51)).cell? ⟨w.heap.size + 1, 1, none⟩ = some (.int .u64 (lo b)) := by simp [go_sem]
  have E : Hid (decide (cmp3 a b < 0) = decide (a < b)) := by
    unfold Hid cmp3
    by_cases h : a < b
    · simp [h]
    · rw [if_neg h]; split <;> simp [h]
  go_enter Try.func27, Try.ntmps27
  go_wp2
  go_region_held3 (fun w' => w'.cell? ⟨w.heap.size, 0, none⟩ = some (.int .u64 (hi a)) ∧ w'.cell? ⟨w.heap.size, 1, none⟩ = some (.int .u64 (lo a)) ∧ w'.cell? ⟨w.heap.size + 1, 0, none⟩ = some (.int .u64 (hi b)) ∧ w'.cell? ⟨w.heap.size + 1, 1, none⟩ = some (.int .u64 (lo b))) (first | exact ⟨c0, c1, c2, c3⟩ | exact call_keeps4 (by assumption) (by assumption))
    (first
      | (go_at_call_of 45 (hi a); refine (of_any a ha _).mono ?_; rintro e w1 ⟨rfl, g1⟩)
      | (go_at_call_of 45 (hi b); refine (of_any b hb _).mono ?_; rintro e w2 ⟨rfl, g2⟩)
      | (go_at_call 44; refine (refcmp_any a b ha hb false false _).mono ?_; rintro e w3 ⟨rfl, g3⟩))
  all_goals
    go_wp2
    go_ret
    exact ⟨ret_bool E.out, by repeat (first | exact ((Gr.refl _).alloc _ _).alloc _ _ | apply Gr.drew | refine Gr.trans ?_ g3 | refine Gr.trans ?_ g2 | refine Gr.trans ?_ g1)⟩

end Go.Proofs.Ytblfmhdcgmkpgaa
