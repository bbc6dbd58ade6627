/- wide.isForm and wide.withDigit, as contracts. -/
import Derived.Test.YtlckjohmllagoaaPlain
import Derived.Test.YtlckjohmllagoaaMul
import Derived.Deep.RegionHeld3
import Derived.Handy
namespace Go.Proofs.Ytlckjohmllagoaa
open Go.RowKit

theorem take_snoc (s : ByteArray) (k : Nat) (h : k < s.size) : s.data.toList.take (k + 1) = s.data.toList.take k ++ [s[k]] := by
  rw [List.take_succ_eq_append_getElem (by simpa using h)]; rfl

theorem ret_bool {a b : Bool} (h : a = b) : Ending.returned (.bool a) = .returned (.bool b) := by rw [h]
theorem all_at (s : ByteArray) (k : Nat) (h : k < s.size) (h2 : s.data.toList.all isDig = true) : isDig s[k] = true := by
  rw [List.all_eq_true] at h2
  exact h2 _ (by show s.data[k] ∈ s.data.toList; simp)
theorem isDig_iff (c : UInt8) : isDig c = true ↔ 48 ≤ (c.toNat : Int) ∧ (c.toNat : Int) ≤ 57 := by unfold isDig; simp
theorem len_list (s : ByteArray) : s.data.toList.length = s.size := by simp
theorem head_list (s : ByteArray) (h : 0 < s.size) : s.data.toList.head? = some s[0] := by
  have : 0 < s.data.toList.length := by rw [len_list]; exact h
  rw [List.head?_eq_getElem?, List.getElem?_eq_getElem this]; rfl
theorem eq48 (c : UInt8) : (c = 48) ↔ (c.toNat : Int) = 48 := by
  constructor
  · intro h; subst h; rfl
  · intro h; apply UInt8.toNat_inj.1; show c.toNat = 48; omega

set_option maxHeartbeats 1000000 in
theorem isForm_any (s : ByteArray) (w : World) (hs : s.size ≤ maxLen) :
    Calls Try.prog 31 #[.string s] w fun e w' => e = .returned (.bool (formB s.data.toList)) ∧ w' = w := by
  unfold maxLen at hs
  by_cases h1 : s.size < 1
  · have F : Hid (formB s.data.toList = false) := by unfold Hid formB; rw [len_list s]; simp; omega
    go_enter Try.func31, Try.ntmps31
    go_wp2
    go_ret
    exact ⟨ret_bool F.out.symm, rfl⟩
  by_cases h2 : 39 < s.size
  · have F : Hid (formB s.data.toList = false) := by unfold Hid formB; rw [len_list s]; simp; omega
    go_enter Try.func31, Try.ntmps31
    go_wp2
    go_ret
    exact ⟨ret_bool F.out.symm, rfl⟩
  have hp : 0 < s.size := by omega
  have G : Hid (¬ ((s[0].toNat : Int) = 48 ∧ 1 < s.size) → formB s.data.toList = s.data.toList.all isDig) := by
    intro h3
    unfold formB
    have e1 : (decide (2 ≤ s.size) && some s[0] == some 48) = false := by
      simp only [Bool.and_eq_false_iff, decide_eq_false_iff_not, beq_eq_false_iff_ne, ne_eq, Option.some.injEq, eq48]; omega
    rw [len_list s, head_list s hp, e1]
    have e2 : decide (1 ≤ s.size) = true := by simp; omega
    have e3 : decide (s.size ≤ 39) = true := by simp; omega
    rw [e2, e3]; simp
  by_cases h3 : (s[0].toNat : Int) = 48
  by_cases h4 : 1 < s.size
  · have F : Hid (formB s.data.toList = false) := by
      unfold Hid formB; rw [len_list s, head_list s hp, (eq48 _).2 h3]; simp; omega
    have hb : ((s[0].toNat : Int) == 48) = true := by simpa using h3
    clear h3 G
    go_enter Try.func31, Try.ntmps31
    go_wp2
    go_ret
    exact ⟨ret_bool F.out.symm, rfl⟩
  · have F : Hid (formB s.data.toList = s.data.toList.all isDig) := G.out (by omega)
    have hb : ((s[0].toNat : Int) == 48) = true := by simpa using h3
    clear h3 G
    go_enter Try.func31, Try.ntmps31
    go_wp2
    go_loop [22] (fun i => ∃ k : Nat, k ≤ s.size ∧ i = .int .i64 (k : Int) ∧ Hid ((s.data.toList.take k).all isDig = true)) (fun i => s.size - (intOf i).toNat)
    case atStart => exact ⟨0, Nat.zero_le _, rfl, rfl⟩
    case round =>
      obtain ⟨k, hk, rfl, H⟩ := hrel
      by_cases hlt : k < s.size
      · by_cases hd : isDig s[k] = true
        · obtain ⟨d1, d2⟩ := (isDig_iff _).1 hd
          have H' : Hid ((s.data.toList.take (k + 1)).all isDig = true) := by unfold Hid; rw [take_snoc s k hlt, List.all_append, H.out]; simp [hd]
          clear hd H
          go_wp2
          go_round
          case rel => exact ⟨k + 1, hlt, by go_num, H'⟩
          case measure => simp [intOf]; omega
        · have F' : Hid (formB s.data.toList = false) := by
            rw [F.out]
            cases hall : s.data.toList.all isDig
            · rfl
            · exact absurd (all_at s k hlt hall) hd
          rw [isDig_iff] at hd
          clear H F
          by_cases d1 : (s[k].toNat : Int) < 48
          · go_wp2
            go_ret
            exact ⟨ret_bool F'.out.symm, rfl⟩
          · have d2 : 57 < (s[k].toNat : Int) := by omega
            clear hd
            go_wp2
            go_ret
            exact ⟨ret_bool F'.out.symm, rfl⟩
      · have hks : k = s.size := by omega
        have F' : Hid (formB s.data.toList = true) := by
          have h5 := H.out
          rw [List.take_of_length_le (by rw [len_list]; omega)] at h5
          exact F.out.trans h5
        clear H F hks
        go_wp2
        go_ret
        exact ⟨ret_bool F'.out.symm, rfl⟩
  · have F : Hid (formB s.data.toList = s.data.toList.all isDig) := G.out (by omega)
    have hb : ((s[0].toNat : Int) == 48) = false := by simpa using h3
    clear h3 G
    go_enter Try.func31, Try.ntmps31
    go_wp2
    go_loop [22] (fun i => ∃ k : Nat, k ≤ s.size ∧ i = .int .i64 (k : Int) ∧ Hid ((s.data.toList.take k).all isDig = true)) (fun i => s.size - (intOf i).toNat)
    case atStart => exact ⟨0, Nat.zero_le _, rfl, rfl⟩
    case round =>
      obtain ⟨k, hk, rfl, H⟩ := hrel
      by_cases hlt : k < s.size
      · by_cases hd : isDig s[k] = true
        · obtain ⟨d1, d2⟩ := (isDig_iff _).1 hd
          have H' : Hid ((s.data.toList.take (k + 1)).all isDig = true) := by unfold Hid; rw [take_snoc s k hlt, List.all_append, H.out]; simp [hd]
          clear hd H
          go_wp2
          go_round
          case rel => exact ⟨k + 1, hlt, by go_num, H'⟩
          case measure => simp [intOf]; omega
        · have F' : Hid (formB s.data.toList = false) := by
            rw [F.out]
            cases hall : s.data.toList.all isDig
            · rfl
            · exact absurd (all_at s k hlt hall) hd
          rw [isDig_iff] at hd
          clear H F
          by_cases d1 : (s[k].toNat : Int) < 48
          · go_wp2
            go_ret
            exact ⟨ret_bool F'.out.symm, rfl⟩
          · have d2 : 57 < (s[k].toNat : Int) := by omega
            clear hd
            go_wp2
            go_ret
            exact ⟨ret_bool F'.out.symm, rfl⟩
      · have hks : k = s.size := by omega
        have F' : Hid (formB s.data.toList = true) := by
          have h5 := H.out
          rw [List.take_of_length_le (by rw [len_list]; omega)] at h5
          exact F.out.trans h5
        clear H F hks
        go_wp2
        go_ret
        exact ⟨ret_bool F'.out.symm, rfl⟩

theorem mul10_hi (a : Nat) (ha : a < 340282366920938463463374607431768211456) (w : World) :
    Calls Try.prog 14 #[.int .u64 (hi a), .int .u64 10] w fun e w' => e = .returned (Wd (a / 18446744073709551616 * 10)) ∧ Gr w w' :=
  mul_any (a / 18446744073709551616) 10 (by omega) (by omega) w
theorem mul10_lo (a : Nat) (w : World) :
    Calls Try.prog 14 #[.int .u64 (lo a), .int .u64 10] w fun e w' => e = .returned (Wd (a % 18446744073709551616 * 10)) ∧ Gr w w' :=
  mul_any (a % 18446744073709551616) 10 (by omega) (by omega) w

theorem ten_hi (a : Nat) (h : a / 18446744073709551616 * 10 < 18446744073709551616) : (Value.agg #[.int .u64 (lo (a / 18446744073709551616 * 10)), .int .u64 0]) = Wd (a / 18446744073709551616 * 10 * 18446744073709551616) := by
  have e1 : lo (a / 18446744073709551616 * 10) = hi (a / 18446744073709551616 * 10 * 18446744073709551616) := by unfold hi lo; omega
  have e2 : (0 : Int) = lo (a / 18446744073709551616 * 10 * 18446744073709551616) := by unfold lo; omega
  rw [Wd, ← e1, ← e2]
theorem add_ten (a : Nat) (h : 10 * a < 340282366920938463463374607431768211456) (w : World) :
    Calls Try.prog 9 #[.agg #[.int .u64 (lo (a / 18446744073709551616 * 10)), .int .u64 0], .agg #[.int .u64 (hi (a % 18446744073709551616 * 10)), .int .u64 (lo (a % 18446744073709551616 * 10))]] w fun e w' =>
      e = .returned (.tuple #[.agg #[.int .u64 (hi (10 * a)), .int .u64 (lo (10 * a))], .int .i64 0]) ∧ Gr w w' := by
  have E2 : a / 18446744073709551616 * 10 * 18446744073709551616 + a % 18446744073709551616 * 10 = 10 * a := by omega
  have := add_ok (a / 18446744073709551616 * 10 * 18446744073709551616) (a % 18446744073709551616 * 10) (by omega) w
  rw [ten_hi a (by omega)]
  rw [E2] at this
  exact this
theorem small_wd (d : Nat) (h : d < 18446744073709551616) : (Value.agg #[.int .u64 0, .int .u64 (d : Int)]) = Wd d := by
  have e1 : hi d = 0 := by unfold hi; omega
  have e2 : lo d = (d : Int) := by unfold lo; omega
  rw [Wd, e1, e2]
theorem add_dig (a d : Nat) (hd : d < 10) (h : 10 * a + d < 340282366920938463463374607431768211456) (w : World) :
    Calls Try.prog 9 #[.agg #[.int .u64 (hi (10 * a)), .int .u64 (lo (10 * a))], .agg #[.int .u64 0, .int .u64 (d : Int)]] w fun e w' =>
      e = .returned (.tuple #[Wd (10 * a + d), .int .i64 0]) ∧ Gr w w' := by
  rw [small_wd d (by omega)]; exact add_ok (10 * a) d h w
theorem add_ten_no (a : Nat) (ha : a / 18446744073709551616 * 10 < 18446744073709551616) (h : 340282366920938463463374607431768211456 ≤ 10 * a) (w : World) :
    Calls Try.prog 9 #[.agg #[.int .u64 (lo (a / 18446744073709551616 * 10)), .int .u64 0], .agg #[.int .u64 (hi (a % 18446744073709551616 * 10)), .int .u64 (lo (a % 18446744073709551616 * 10))]] w fun e w' =>
      e = .returned (.tuple #[.agg #[.int .u64 0, .int .u64 0], .int .i64 10]) ∧ Gr w w' := by
  rw [ten_hi a ha]
  exact add_no (a / 18446744073709551616 * 10 * 18446744073709551616) (a % 18446744073709551616 * 10) (by omega) (by omega) (by omega) w
theorem add_dig_no (a d : Nat) (hd : d < 10) (h1 : 10 * a < 340282366920938463463374607431768211456) (h : 340282366920938463463374607431768211456 ≤ 10 * a + d) (w : World) :
    Calls Try.prog 9 #[.agg #[.int .u64 (hi (10 * a)), .int .u64 (lo (10 * a))], .agg #[.int .u64 0, .int .u64 (d : Int)]] w fun e w' =>
      e = .returned (.tuple #[.agg #[.int .u64 0, .int .u64 0], .int .i64 10]) ∧ Gr w w' := by
  rw [small_wd d (by omega)]; exact add_no (10 * a) d h1 (by omega) h w

set_option maxHeartbeats 2000000 in
theorem withDigit_ok (a d : Nat) (hd : d < 10) (h : 10 * a + d < 340282366920938463463374607431768211456) (w : World) :
    Calls Try.prog 32 #[Wd a, .int .u8 (d : Int)] w fun e w' => e = .returned (.tuple #[Wd (10 * a + d), .int .i64 0]) ∧ Gr w w' := by
  have ha : a < 340282366920938463463374607431768211456 := by omega
  have h0 : hi (a / 18446744073709551616 * 10) = 0 := by unfold hi; omega
  go_enter Try.func32, Try.ntmps32
  go_wp2_with (go_at_call 14; refine (mul10_hi a ha _).mono ?_; rintro e w1 ⟨rfl, hg1⟩; obtain ⟨hc1, hf1, hz1⟩ := hg1.rules)
  have b0 : ((w.alloc (.cells #[.int .u64 (hi a), .int .u64 (lo a)] 24)).alloc (.cells #[.int .u64 0, .int .u64 0] 24)).cell? ⟨w.heap.size, 1, none⟩ = some (.int .u64 (lo a)) := by simp [go_sem]
  have c0 : (w1.alloc (Obj.cells #[.int .u64 0, .int .u64 (lo (a / 18446744073709551616 * 10))] 24)).cell? ⟨w.heap.size, 1, none⟩ = some (.int .u64 (lo a)) := alloc_keeps (hg1.keeps b0) _
  have c1 : (w1.alloc (Obj.cells #[.int .u64 0, .int .u64 (lo (a / 18446744073709551616 * 10))] 24)).cell? ⟨w1.heap.size, 1, none⟩ = some (.int .u64 (lo (a / 18446744073709551616 * 10))) := by simp [go_sem]
  clear b0
  have z0 : w.heap.size + 2 ≤ w1.heap.size := by simpa using hg1.size
  have l2 := lt_two
  have l3 := lt_three
  go_region_held3 (fun w' => w'.cell? ⟨w.heap.size, 1, none⟩ = some (.int .u64 (lo a)) ∧ w'.cell? ⟨w1.heap.size, 1, none⟩ = some (.int .u64 (lo (a / 18446744073709551616 * 10)))) (first | exact ⟨c0, c1⟩ | exact call_keeps2 (by assumption) (by assumption) | exact alloc_keeps2 (by assumption) | exact alloc_keeps2 (call_keeps2 hg3 (call_keeps2 hg2 ⟨c0, c1⟩)) | exact set_far2 (by dsimp only; omega) (by dsimp only; omega) (set_far2 (by dsimp only; omega) (by dsimp only; omega) (by assumption)))
        (first
          | (go_at_call 14; refine (mul10_lo a _).mono ?_; rintro e w2 ⟨rfl, hg2⟩; obtain ⟨hc2, hf2, hz2⟩ := hg2.rules; have z2 := hg2.size; simp only [World.size_alloc, World.size_drew] at z2)
          | (go_at_call 9; refine (add_ten a (by omega) _).mono ?_; rintro e w3 ⟨rfl, hg3⟩; obtain ⟨hc3, hf3, hz3⟩ := hg3.rules))
  · go_wp2_with (go_at_call 9; refine (add_dig a d hd h _).mono ?_; rintro e w4 ⟨rfl, hg4⟩; have hG : Gr ((w.alloc (.cells #[.int .u64 (hi a), .int .u64 (lo a)] 24)).alloc (.cells #[.int .u64 0, .int .u64 0] 24)) w4 := (by refine Gr.trans ?_ hg4; repeat (first | exact hg1 | apply Gr.drew | apply Gr.alloc | (refine Gr.trans ?_ hg3) | (refine Gr.trans ?_ hg2) | (refine Gr.setCell ?_ (by simp; omega) _))); have hV := hG.var2; simp only [World.size_alloc] at hV; obtain ⟨v0, v1, v2, v3⟩ := hV)
    exact bodyPost_ret (v := (.tuple #[Wd (10 * a + d), .int .i64 0])) (by simp [results, Try.results32, go_sem, v0, v1]) rfl ⟨rfl, by repeat (first | exact ((Gr.refl _).alloc _ _).trans (((Gr.refl _).alloc _ _).trans hG) | refine Gr.setCell ?_ (by simp) _)⟩
  · have hq := hg3.var2
    obtain ⟨q0, q1, q2, q3⟩ := hq
    go_wp2_with (go_at_call 9; refine (add_dig a d hd h _).mono ?_; rintro e w4 ⟨rfl, hg4⟩; have hG : Gr ((w.alloc (.cells #[.int .u64 (hi a), .int .u64 (lo a)] 24)).alloc (.cells #[.int .u64 0, .int .u64 0] 24)) w4 := (by refine Gr.trans ?_ hg4; repeat (first | exact hg1 | apply Gr.drew | apply Gr.alloc | (refine Gr.trans ?_ hg3) | (refine Gr.trans ?_ hg2) | (refine Gr.setCell ?_ (by simp; omega) _))); have hV := hG.var2; simp only [World.size_alloc] at hV; obtain ⟨v0, v1, v2, v3⟩ := hV)
    exact bodyPost_ret (v := (.tuple #[Wd (10 * a + d), .int .i64 0])) (by simp [results, Try.results32, go_sem, v0, v1]) rfl ⟨rfl, by repeat (first | exact ((Gr.refl _).alloc _ _).trans (((Gr.refl _).alloc _ _).trans hG) | refine Gr.setCell ?_ (by simp) _)⟩
  · have hq := (((Gr.refl _).drew.trans hg2).trans hg3).var2
    simp only [World.size_alloc] at hq
    obtain ⟨q0, q1, q2, q3⟩ := hq
    go_wp2_with (go_at_call 9; refine (add_dig a d hd h _).mono ?_; rintro e w4 ⟨rfl, hg4⟩; have hG : Gr ((w.alloc (.cells #[.int .u64 (hi a), .int .u64 (lo a)] 24)).alloc (.cells #[.int .u64 0, .int .u64 0] 24)) w4 := (by refine Gr.trans ?_ hg4; repeat (first | exact hg1 | apply Gr.drew | apply Gr.alloc | (refine Gr.trans ?_ hg3) | (refine Gr.trans ?_ hg2) | (refine Gr.setCell ?_ (by simp; omega) _))); have hV := hG.var2; simp only [World.size_alloc] at hV; obtain ⟨v0, v1, v2, v3⟩ := hV)
    exact bodyPost_ret (v := (.tuple #[Wd (10 * a + d), .int .i64 0])) (by simp [results, Try.results32, go_sem, v0, v1]) rfl ⟨rfl, by repeat (first | exact ((Gr.refl _).alloc _ _).trans (((Gr.refl _).alloc _ _).trans hG) | refine Gr.setCell ?_ (by simp) _)⟩

set_option maxHeartbeats 2000000 in
theorem withDigit_noC (a d : Nat) (hd : d < 10) (h1 : 10 * a < 340282366920938463463374607431768211456) (h : 340282366920938463463374607431768211456 ≤ 10 * a + d) (w : World) :
    Calls Try.prog 32 #[Wd a, .int .u8 (d : Int)] w fun e w' => e = .returned (.tuple #[.agg #[.int .u64 0, .int .u64 0], .int .i64 10]) ∧ Gr w w' := by
  have ha : a < 340282366920938463463374607431768211456 := by omega
  have h0 : hi (a / 18446744073709551616 * 10) = 0 := by unfold hi; omega
  go_enter Try.func32, Try.ntmps32
  go_wp2_with (go_at_call 14; refine (mul10_hi a ha _).mono ?_; rintro e w1 ⟨rfl, hg1⟩; obtain ⟨hc1, hf1, hz1⟩ := hg1.rules)
  have b0 : ((w.alloc (.cells #[.int .u64 (hi a), .int .u64 (lo a)] 24)).alloc (.cells #[.int .u64 0, .int .u64 0] 24)).cell? ⟨w.heap.size, 1, none⟩ = some (.int .u64 (lo a)) := by simp [go_sem]
  have c0 : (w1.alloc (Obj.cells #[.int .u64 0, .int .u64 (lo (a / 18446744073709551616 * 10))] 24)).cell? ⟨w.heap.size, 1, none⟩ = some (.int .u64 (lo a)) := alloc_keeps (hg1.keeps b0) _
  have c1 : (w1.alloc (Obj.cells #[.int .u64 0, .int .u64 (lo (a / 18446744073709551616 * 10))] 24)).cell? ⟨w1.heap.size, 1, none⟩ = some (.int .u64 (lo (a / 18446744073709551616 * 10))) := by simp [go_sem]
  clear b0
  have z0 : w.heap.size + 2 ≤ w1.heap.size := by simpa using hg1.size
  have l2 := lt_two
  have l3 := lt_three
  go_region_held3 (fun w' => w'.cell? ⟨w.heap.size, 1, none⟩ = some (.int .u64 (lo a)) ∧ w'.cell? ⟨w1.heap.size, 1, none⟩ = some (.int .u64 (lo (a / 18446744073709551616 * 10)))) (first | exact ⟨c0, c1⟩ | exact call_keeps2 (by assumption) (by assumption) | exact alloc_keeps2 (by assumption) | exact alloc_keeps2 (call_keeps2 hg3 (call_keeps2 hg2 ⟨c0, c1⟩)) | exact set_far2 (by dsimp only; omega) (by dsimp only; omega) (set_far2 (by dsimp only; omega) (by dsimp only; omega) (by assumption)))
        (first
          | (go_at_call 14; refine (mul10_lo a _).mono ?_; rintro e w2 ⟨rfl, hg2⟩; obtain ⟨hc2, hf2, hz2⟩ := hg2.rules; have z2 := hg2.size; simp only [World.size_alloc, World.size_drew] at z2)
          | (go_at_call 9; refine (add_ten a h1 _).mono ?_; rintro e w3 ⟨rfl, hg3⟩; obtain ⟨hc3, hf3, hz3⟩ := hg3.rules))
  · go_wp2_with (go_at_call 9; refine (add_dig_no a d hd h1 h _).mono ?_; rintro e w4 ⟨rfl, hg4⟩; have hG : Gr ((w.alloc (.cells #[.int .u64 (hi a), .int .u64 (lo a)] 24)).alloc (.cells #[.int .u64 0, .int .u64 0] 24)) w4 := (by refine Gr.trans ?_ hg4; repeat (first | exact hg1 | apply Gr.drew | apply Gr.alloc | (refine Gr.trans ?_ hg3) | (refine Gr.trans ?_ hg2) | (refine Gr.setCell ?_ (by simp; omega) _))); have hV := hG.var2; simp only [World.size_alloc] at hV; obtain ⟨v0, v1, v2, v3⟩ := hV)
    exact bodyPost_ret (v := (.tuple #[.agg #[.int .u64 0, .int .u64 0], .int .i64 10])) (by simp [results, Try.results32, go_sem, v0, v1]) rfl ⟨rfl, by repeat (first | exact ((Gr.refl _).alloc _ _).trans (((Gr.refl _).alloc _ _).trans hG) | refine Gr.setCell ?_ (by simp) _)⟩
  · have hq := hg3.var2
    obtain ⟨q0, q1, q2, q3⟩ := hq
    go_wp2_with (go_at_call 9; refine (add_dig_no a d hd h1 h _).mono ?_; rintro e w4 ⟨rfl, hg4⟩; have hG : Gr ((w.alloc (.cells #[.int .u64 (hi a), .int .u64 (lo a)] 24)).alloc (.cells #[.int .u64 0, .int .u64 0] 24)) w4 := (by refine Gr.trans ?_ hg4; repeat (first | exact hg1 | apply Gr.drew | apply Gr.alloc | (refine Gr.trans ?_ hg3) | (refine Gr.trans ?_ hg2) | (refine Gr.setCell ?_ (by simp; omega) _))); have hV := hG.var2; simp only [World.size_alloc] at hV; obtain ⟨v0, v1, v2, v3⟩ := hV)
    exact bodyPost_ret (v := (.tuple #[.agg #[.int .u64 0, .int .u64 0], .int .i64 10])) (by simp [results, Try.results32, go_sem, v0, v1]) rfl ⟨rfl, by repeat (first | exact ((Gr.refl _).alloc _ _).trans (((Gr.refl _).alloc _ _).trans hG) | refine Gr.setCell ?_ (by simp) _)⟩
  · have hq := (((Gr.refl _).drew.trans hg2).trans hg3).var2
    simp only [World.size_alloc] at hq
    obtain ⟨q0, q1, q2, q3⟩ := hq
    go_wp2_with (go_at_call 9; refine (add_dig_no a d hd h1 h _).mono ?_; rintro e w4 ⟨rfl, hg4⟩; have hG : Gr ((w.alloc (.cells #[.int .u64 (hi a), .int .u64 (lo a)] 24)).alloc (.cells #[.int .u64 0, .int .u64 0] 24)) w4 := (by refine Gr.trans ?_ hg4; repeat (first | exact hg1 | apply Gr.drew | apply Gr.alloc | (refine Gr.trans ?_ hg3) | (refine Gr.trans ?_ hg2) | (refine Gr.setCell ?_ (by simp; omega) _))); have hV := hG.var2; simp only [World.size_alloc] at hV; obtain ⟨v0, v1, v2, v3⟩ := hV)
    exact bodyPost_ret (v := (.tuple #[.agg #[.int .u64 0, .int .u64 0], .int .i64 10])) (by simp [results, Try.results32, go_sem, v0, v1]) rfl ⟨rfl, by repeat (first | exact ((Gr.refl _).alloc _ _).trans (((Gr.refl _).alloc _ _).trans hG) | refine Gr.setCell ?_ (by simp) _)⟩


end Go.Proofs.Ytlckjohmllagoaa
