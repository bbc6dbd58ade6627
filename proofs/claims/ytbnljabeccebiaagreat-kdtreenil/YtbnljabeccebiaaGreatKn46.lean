import Derived.Test.YtbnljabeccebiaaGreatKn45
import Derived.BigQuiet
import Derived.Deep.RegionWith
/- The reference's Cmp and Less, as contracts. -/
namespace Go.Proofs.YtbnljabeccebiaaGreat
open Go.RowKit

theorem ret_int {k : IntKind} {a b : Int} (h : a = b) : Ending.returned (.int k a) = .returned (.int k b) := by rw [h]
theorem up_digit (a t : Nat) : a / 65536 ^ t = a / 65536 ^ (t + 1) * 65536 + a / 65536 ^ t % 65536 := by
  rw [Nat.pow_succ, ← Nat.div_div_eq_div_mul]; omega
theorem lt_of_div {a b d : Nat} (h : a / d < b / d) : a < b := by
  apply Nat.lt_of_not_le; intro hc
  exact absurd (Nat.div_le_div_right (c := d) hc) (by omega)

set_option maxHeartbeats 2000000 in
theorem refcmp_any (a b : Nat) (ha : a < 340282366920938463463374607431768211456) (hb : b < 340282366920938463463374607431768211456) (o p : Bool) (w : World) :
    Calls Tryz.prog 177 #[Nm a o, Nm b p] w fun e w' => e = .returned (.int .i64 (cmp3 a b)) ∧ Gr w w' := by
  have n0 := (NumAt.new w a o 221).call ((Gr.refl _).alloc #[.int .i64 (dd b 0), .int .i64 (dd b 1), .int .i64 (dd b 2), .int .i64 (dd b 3), .int .i64 (dd b 4), .int .i64 (dd b 5), .int .i64 (dd b 6), .int .i64 (dd b 7), .bool p] 221)
  have n1 := NumAt.new (w.alloc (.cells #[.int .i64 (dd a 0), .int .i64 (dd a 1), .int .i64 (dd a 2), .int .i64 (dd a 3), .int .i64 (dd a 4), .int .i64 (dd a 5), .int .i64 (dd a 6), .int .i64 (dd a 7), .bool o] 221)) b p 221
  simp only [World.size_alloc] at n1
  go_enter Tryz.func177, Tryz.ntmps177
  go_wp2
  go_loopw [5] (fun iv w' => ∃ z : Int, ∃ k : Nat, iv = .int .i64 z ∧ z = (k : Int) - 1 ∧ k ≤ 8 ∧ Hid (a / 65536 ^ k = b / 65536 ^ k) ∧ Gr w w' ∧ NumAt w' w.heap.size a o ∧ NumAt w' (w.heap.size + 1) b p) (fun iv _ => (intOf iv + 1).toNat)
  case atStart =>
    refine ⟨7, 8, rfl, by omega, by omega, ?_, ((Gr.refl _).alloc _ _).alloc _ _, n0, n1⟩
    show a / 65536 ^ 8 = b / 65536 ^ 8
    rw [Nat.div_eq_of_lt ha, Nat.div_eq_of_lt hb]
  case round =>
    clear n0 n1
    obtain ⟨z, k, rfl, hz, hk, X, hG, hA, hB⟩ := hrel
    cases k with
    | zero =>
      have E : Hid (cmp3 a b = 0) := by
        have := X.out
        simp at this
        subst this; unfold Hid cmp3; simp
      have hz' : z < 0 := by omega
      clear hz X hA hB
      go_wp2
      go_ret
      exact ⟨ret_int E.out.symm, hG⟩
    | succ t =>
      have hzt : z = (t : Int) := by omega
      subst hzt
      obtain ⟨e, he, he1, he2⟩ := dd_nat a t
      obtain ⟨f, hf, hf1, hf2⟩ := dd_nat b t
      have ca := hA.d t (by omega)
      have cb := hB.d t (by omega)
      rw [he] at ca; rw [hf] at cb
      have ua := up_digit a t
      have ub := up_digit b t
      rw [← he2] at ua; rw [← hf2] at ub
      have hX := X.out
      by_cases hlt : e < f
      · have E : Hid (cmp3 a b = -1) := by unfold Hid cmp3; rw [if_pos (lt_of_div (d := 65536 ^ t) (by omega))]
        have g1 : ((e : Int) == (f : Int)) = false := by rw [beq_eq_false_iff_ne]; omega
        clear he he2 hf hf2 ua ub hX X hz hA hB
        go_wp2
        go_quiet (fail)
        go_wp2
        go_quiet (fail)
        go_wp2
        go_ret
        exact ⟨ret_int E.out.symm, (hG.drewN _).drewN _⟩
      by_cases hgt : f < e
      · have hba : b < a := lt_of_div (d := 65536 ^ t) (by omega)
        have E : Hid (cmp3 a b = 1) := by unfold Hid cmp3; rw [if_neg (by omega), if_neg (by omega)]
        have g1 : ((e : Int) == (f : Int)) = false := by rw [beq_eq_false_iff_ne]; omega
        clear he he2 hf hf2 ua ub hX X hz hA hB hba
        go_wp2
        go_quiet (fail)
        go_wp2
        go_quiet (fail)
        go_wp2
        go_ret
        exact ⟨ret_int E.out.symm, (hG.drewN _).drewN _⟩
      · have hef : f = e := by omega
        subst hef
        have E : Hid (a / 65536 ^ t = b / 65536 ^ t) := by unfold Hid; omega
        clear he he2 hf hf2 ua ub hX X hz hlt hgt
        go_wp2
        go_quiet (fail)
        go_wp2
        refine ⟨⟨(t : Int) - 1, t, by go_num, rfl, by omega, E, hG.drewN _, hA.call ((Gr.refl _).drewN _), hB.call ((Gr.refl _).drewN _)⟩, by simp [intOf]⟩

set_option maxHeartbeats 1000000 in
theorem less_any (a b : Nat) (ha : a < 340282366920938463463374607431768211456) (hb : b < 340282366920938463463374607431768211456) (w : World) :
    Calls Tryz.prog 143 #[Wd a, Wd b] w fun e w' => e = .returned (.bool (decide (a < b))) ∧ Gr w w' := by
  have c0 : ((w.alloc (.cells #[.int .u64 (hi a), .int .u64 (lo a)] 66)).alloc (.cells #[.int .u64 (hi b), .int .u64 (lo b)] 66)).cell? ⟨w.heap.size, 0, none⟩ = some (.int .u64 (hi a)) := by simp [go_sem]
  have c1 : ((w.alloc (.cells #[.int .u64 (hi a), .int .u64 (lo a)] 66)).alloc (.cells #[.int .u64 (hi b), .int .u64 (lo b)] 66)).cell? ⟨w.heap.size, 1, none⟩ = some (.int .u64 (lo a)) := by simp [go_sem]
  have c2 : ((w.alloc (.cells #[.int .u64 (hi a), .int .u64 (lo a)] 66)).alloc (.cells #[.int .u64 (hi b), .int .u64 (lo b)] 66)).cell? ⟨w.heap.size + 1, 0, none⟩ = some (.int .u64 (hi b)) := by simp [go_sem]
  have c3 : ((w.alloc (.cells #[.int .u64 (hi a), .int .u64 (lo a)] 66)).alloc (.cells #[.int .u64 (hi b), .int .u64 (lo b)] 66)).cell? ⟨w.heap.size + 1, 1, none⟩ = some (.int .u64 (lo b)) := by simp [go_sem]
  have E : Hid (decide (cmp3 a b < 0) = decide (a < b)) := by
    unfold Hid cmp3
    by_cases h : a < b
    · simp [h]
    · rw [if_neg h]; split <;> simp [h]
  go_enter Tryz.func143, Tryz.ntmps143
  go_wp2
  go_region_held3 (fun w' => w'.cell? ⟨w.heap.size, 0, none⟩ = some (.int .u64 (hi a)) ∧ w'.cell? ⟨w.heap.size, 1, none⟩ = some (.int .u64 (lo a)) ∧ w'.cell? ⟨w.heap.size + 1, 0, none⟩ = some (.int .u64 (hi b)) ∧ w'.cell? ⟨w.heap.size + 1, 1, none⟩ = some (.int .u64 (lo b))) (first | exact ⟨c0, c1, c2, c3⟩ | exact call_keeps4 (by assumption) (by assumption))
    (first
      | (go_at_call_of 178 (hi a); refine (of_any a ha _).mono ?_; rintro e w1 ⟨rfl, g1⟩)
      | (go_at_call_of 178 (hi b); refine (of_any b hb _).mono ?_; rintro e w2 ⟨rfl, g2⟩)
      | (go_at_call 177; refine (refcmp_any a b ha hb false false _).mono ?_; rintro e w3 ⟨rfl, g3⟩))
  all_goals
    go_wp2
    go_ret
    exact ⟨ret_bool E.out, by repeat (first | exact ((Gr.refl _).alloc _ _).alloc _ _ | apply Gr.drew | refine Gr.trans ?_ g3 | refine Gr.trans ?_ g2 | refine Gr.trans ?_ g1)⟩

end Go.Proofs.YtbnljabeccebiaaGreat

/- The reference's Wide and Add, as contracts. -/
namespace Go.Proofs.YtbnljabeccebiaaGreat
open Go.RowKit

set_option maxHeartbeats 2000000 in
theorem wide_any (n : Nat) (hn : n < 340282366920938463463374607431768211456) (o : Bool) (w : World) :
    Calls Tryz.prog 206 #[Nm n o] w fun e w' => e = .returned (Wd n) ∧ Gr w w' := by
  have n0 := ((NumAt.new w n o 221).call ((Gr.refl _).alloc #[.int .u64 0, .int .u64 0] 66)).call ((Gr.refl _).alloc #[.int .u64 0, .int .u64 0] 66)
  go_enter Tryz.func206, Tryz.ntmps206
  go_wp2
  go_loopw [4] (fun iv w' => ∃ z : Int, ∃ k x y : Nat, iv = .int .i64 z ∧ z = (k : Int) - 1 ∧ k ≤ 4 ∧ Hid (x = n / 18446744073709551616 / 65536 ^ k ∧ y = n % 18446744073709551616 / 65536 ^ k) ∧ Gr (((w.alloc (.cells #[.int .i64 (dd n 0), .int .i64 (dd n 1), .int .i64 (dd n 2), .int .i64 (dd n 3), .int .i64 (dd n 4), .int .i64 (dd n 5), .int .i64 (dd n 6), .int .i64 (dd n 7), .bool o] 221)).alloc (.cells #[.int .u64 0, .int .u64 0] 66))) w' ∧ NumAt w' w.heap.size n o ∧ w'.cell? ⟨w.heap.size + 1 + 1, 0, none⟩ = some (.int .u64 (x : Int)) ∧ w'.cell? ⟨w.heap.size + 1 + 1, 1, none⟩ = some (.int .u64 (y : Int)) ∧ w'.frozen? ⟨w.heap.size + 1 + 1, 0, none⟩ = false ∧ w'.frozen? ⟨w.heap.size + 1 + 1, 1, none⟩ = false) (fun iv _ => (intOf iv + 1).toNat)
  case atStart =>
    refine ⟨3, 4, 0, 0, rfl, by omega, by omega, ?_, (Gr.refl _).alloc _ _, n0, by simp [go_sem], by simp [go_sem], by simp [go_sem], by simp [go_sem]⟩
    show 0 = n / 18446744073709551616 / 65536 ^ 4 ∧ 0 = n % 18446744073709551616 / 65536 ^ 4
    simp only [Nat.reducePow]; omega
  case round =>
    clear n0
    obtain ⟨z, k, x, y, rfl, hz, hk, X, hG, hN, c0, c1, f0, f1⟩ := hrel
    cases k with
    | zero =>
      have hz' : z < 0 := by omega
      have E : Hid ((x : Int) = hi n ∧ (y : Int) = lo n) := by
        have := X.out
        simp at this
        obtain ⟨h1, h2⟩ := this
        subst h1 h2; exact ⟨rfl, rfl⟩
      have V := hG.var2
      simp only [World.size_alloc] at V
      obtain ⟨v0, v1, v2, v3⟩ := V
      clear hz X hN
      go_wp2
      refine bodyPost_ret (v := Wd n) ?_ rfl ⟨rfl, ?_⟩
      · rw [Wd, ← E.out.1, ← E.out.2]; simp [results, Tryz.results206, go_sem, v0, v1]
      · exact (((((Gr.refl _).alloc _ _).alloc _ _).trans hG).setCell (by simp) _).setCell (by simp) _
    | succ t =>
      have hzt : z = (t : Int) := by omega
      subst hzt
      obtain ⟨e, he, he1, he2⟩ := dd_nat n t
      obtain ⟨f, hf, hf1, hf2⟩ := dd_nat n (4 + t)
      have ca := hN.d t (by omega)
      have cb := hN.d (4 + t) (by omega)
      rw [he] at ca; rw [hf] at cb
      have hnb : w.heap.size + 1 + 1 ≠ w.heap.size := by omega
      have hx : x < 281474976710656 ∧ y < 281474976710656 := by
        obtain ⟨h1, h2⟩ := X.out
        have ht : t = 0 ∨ t = 1 ∨ t = 2 ∨ t = 3 := by omega
        rcases ht with rfl | rfl | rfl | rfl <;> (simp only [Nat.reduceAdd, Nat.reducePow] at h1 h2; omega)
      obtain ⟨x1, y1⟩ := hx
      have X' : Hid (65536 * x + f = n / 18446744073709551616 / 65536 ^ t ∧ 65536 * y + e = n % 18446744073709551616 / 65536 ^ t) := by
        obtain ⟨h1, h2⟩ := X.out
        have ht : t = 0 ∨ t = 1 ∨ t = 2 ∨ t = 3 := by omega
        unfold Hid
        rcases ht with rfl | rfl | rfl | rfl <;> (simp only [Nat.reduceAdd, Nat.reducePow] at *; omega)
      clear he he2 hf hf2 X hz
      go_wp2
      go_region
      go_wp2
      go_region
      go_wp2
      refine ⟨⟨(t : Int) - 1, t, 65536 * x + f, 65536 * y + e, by go_num, rfl, by omega, X', ?_, ?_, ?_, ?_, ?_, ?_⟩, by simp [intOf]⟩
      · exact (((hG.setCell (by simp) _).drew.setCell (by simp) _).drew)
      · exact ((hN.far _ _ hnb _).far _ _ hnb _).call ((Gr.refl _).drew.drew)
      · simp [go_sem, c0]
      · simp [go_sem, c1]
      · simp [go_sem, f0]
      · simp [go_sem, f1]

end Go.Proofs.YtbnljabeccebiaaGreat

/- What the walks over Times lean on. -/
namespace Go.Proofs.YtbnljabeccebiaaGreat
open Go.RowKit

theorem Gr.undrew {w w' : World} (g : Gr w.drew w') : Gr w w' := (Gr.refl w).drew.trans g
/-- plus, its answer under names. -/
theorem plus_ex (n : Nat) (hn : n < 340282366920938463463374607431768211456) (o : Bool) (k v : Nat) (hk : k ≤ 14) (hv : v < 8589934592) (w : World) :
    Calls Tryz.prog 212 #[Nm n o, .int .i64 (k : Int), .int .i64 (v : Int)] w fun e w' => ∃ q : Nat, ∃ p : Bool, e = .returned (Nm q p) ∧ q < 340282366920938463463374607431768211456 ∧
      Hid (q = (n + v * 65536 ^ k) % 340282366920938463463374607431768211456 ∧ p = (o || decide (340282366920938463463374607431768211456 ≤ n + v * 65536 ^ k))) ∧ Gr w w' := by
  refine (plus_any n hn o k v hk hv w).mono ?_
  rintro e w' ⟨rfl, g⟩
  exact ⟨_, _, rfl, Nat.mod_lt _ (by omega), ⟨rfl, rfl⟩, g⟩
/-- What is left of a number that is added to part by part, and whether it was ever too great. -/
theorem sum_step (Y d : Nat) (ov : Bool) (q q' : Nat) (p p' : Bool) (hq : q = Y % 340282366920938463463374607431768211456) (hp : p = (ov || decide (340282366920938463463374607431768211456 ≤ Y)))
    (hq' : q' = (q + d) % 340282366920938463463374607431768211456) (hp' : p' = (p || decide (340282366920938463463374607431768211456 ≤ q + d))) :
    q' = (Y + d) % 340282366920938463463374607431768211456 ∧ p' = (ov || decide (340282366920938463463374607431768211456 ≤ Y + d)) := by
  subst hq hp hq' hp'
  refine ⟨by omega, ?_⟩
  by_cases h : 340282366920938463463374607431768211456 ≤ Y
  · rw [decide_eq_true h, decide_eq_true (show 340282366920938463463374607431768211456 ≤ Y + d by omega)]; simp
  · rw [Nat.mod_eq_of_lt (by omega), decide_eq_false h]; simp
theorem NumAt.zero (w : World) (t : TypeId) : NumAt (w.alloc (.cells #[.int .i64 0, .int .i64 0, .int .i64 0, .int .i64 0, .int .i64 0, .int .i64 0, .int .i64 0, .int .i64 0, .bool false] t)) w.heap.size 0 false := NumAt.new w 0 false t
theorem NumAt.drew {w : World} {B n : Nat} {o : Bool} (h : NumAt w B n o) : NumAt w.drew B n o := h.call (Gr.refl _).drew

end Go.Proofs.YtbnljabeccebiaaGreat

/- The reference's Times, as a contract. -/
namespace Go.Proofs.YtbnljabeccebiaaGreat
open Go.RowKit

theorem plus_sum (n : Nat) (hn : n < 340282366920938463463374607431768211456) (o : Bool) (i k v : Nat) (hk : i + k ≤ 14) (hv : v < 8589934592) (w : World) :
    Calls Tryz.prog 212 #[Nm n o, .int .i64 ((i : Int) + (k : Int)), .int .i64 (v : Int)] w fun e w' => ∃ q : Nat, ∃ p : Bool, e = .returned (Nm q p) ∧ q < 340282366920938463463374607431768211456 ∧
      Hid (q = (n + v * 65536 ^ (i + k)) % 340282366920938463463374607431768211456 ∧ p = (o || decide (340282366920938463463374607431768211456 ≤ n + v * 65536 ^ (i + k)))) ∧ Gr w w' := by
  have := plus_ex n hn o (i + k) v hk hv w
  rw [Int.natCast_add] at this; exact this
/-- One digit's product more. -/
theorem times_step (n m i k e f v Y : Nat) (hf : f = m / 65536 ^ k % 65536) (hv : v = e * f) (hY : Y = n % 65536 ^ i * m + e * 65536 ^ i * (m % 65536 ^ k)) :
    Y + v * 65536 ^ (i + k) = n % 65536 ^ i * m + e * 65536 ^ i * (m % 65536 ^ (k + 1)) := by
  subst hY hv
  rw [Nat.pow_succ, Nat.mod_mul, ← hf, Nat.mul_add, Nat.pow_add, Nat.add_assoc]
  congr 2
  rw [Nat.mul_mul_mul_comm, Nat.mul_comm f, Nat.mul_assoc e]
theorem times_row (n m i e Y : Nat) (hm : m < 340282366920938463463374607431768211456) (he : e = n / 65536 ^ i % 65536) (hY : Y = n % 65536 ^ i * m + e * 65536 ^ i * (m % 65536 ^ 8)) : Y = n % 65536 ^ (i + 1) * m := by
  subst hY
  rw [Nat.mod_eq_of_lt (show m < 65536 ^ 8 from hm), Nat.pow_succ, Nat.mod_mul, ← he, Nat.add_mul, Nat.mul_comm e]

set_option maxHeartbeats 4000000 in
theorem times_false (n m : Nat) (hn : n < 340282366920938463463374607431768211456) (hm : m < 340282366920938463463374607431768211456) (o2 : Bool) (w : World) :
    Calls Tryz.prog 205 #[Nm n false, Nm m o2] w fun e w' =>
      e = .returned (Nm (n * m % 340282366920938463463374607431768211456) (o2 || decide (340282366920938463463374607431768211456 ≤ n * m))) ∧ Gr w w' := by
  have n0 := NumAt.new w n false 221
  have n1 := NumAt.new (w.alloc (.cells #[.int .i64 (dd n 0), .int .i64 (dd n 1), .int .i64 (dd n 2), .int .i64 (dd n 3), .int .i64 (dd n 4), .int .i64 (dd n 5), .int .i64 (dd n 6), .int .i64 (dd n 7), .bool false] 221)) m o2 221
  have n2 := NumAt.zero ((w.alloc (.cells #[.int .i64 (dd n 0), .int .i64 (dd n 1), .int .i64 (dd n 2), .int .i64 (dd n 3), .int .i64 (dd n 4), .int .i64 (dd n 5), .int .i64 (dd n 6), .int .i64 (dd n 7), .bool false] 221)).alloc (.cells #[.int .i64 (dd m 0), .int .i64 (dd m 1), .int .i64 (dd m 2), .int .i64 (dd m 3), .int .i64 (dd m 4), .int .i64 (dd m 5), .int .i64 (dd m 6), .int .i64 (dd m 7), .bool o2] 221)) 221
  have n3 := NumAt.new (((w.alloc (.cells #[.int .i64 (dd n 0), .int .i64 (dd n 1), .int .i64 (dd n 2), .int .i64 (dd n 3), .int .i64 (dd n 4), .int .i64 (dd n 5), .int .i64 (dd n 6), .int .i64 (dd n 7), .bool false] 221)).alloc (.cells #[.int .i64 (dd m 0), .int .i64 (dd m 1), .int .i64 (dd m 2), .int .i64 (dd m 3), .int .i64 (dd m 4), .int .i64 (dd m 5), .int .i64 (dd m 6), .int .i64 (dd m 7), .bool o2] 221)).alloc (.cells #[.int .i64 0, .int .i64 0, .int .i64 0, .int .i64 0, .int .i64 0, .int .i64 0, .int .i64 0, .int .i64 0, .bool false] 221)) 0 o2 221
  simp only [World.size_alloc] at n1 n2 n3
  go_enter Tryz.func205, Tryz.ntmps205
  go_wp2
  go_loopw [6] (fun iv w' => ∃ i Y q : Nat, ∃ p : Bool, iv = .int .i64 (i : Int) ∧ i ≤ 8 ∧ q < 340282366920938463463374607431768211456 ∧ Hid (Y = n % 65536 ^ i * m) ∧ Hid (q = Y % 340282366920938463463374607431768211456 ∧ p = (o2 || decide (340282366920938463463374607431768211456 ≤ Y))) ∧ Gr w w' ∧ NumAt w' w.heap.size n false ∧ NumAt w' (w.heap.size + 1) m o2 ∧ NumAt w' (w.heap.size + 1 + 1) 0 false ∧ NumAt w' (w.heap.size + 1 + 1 + 1) q p) (fun iv _ => 8 - (intOf iv).toNat)
  case atStart =>
    refine ⟨0, 0, 0, o2, rfl, by omega, by omega, by show 0 = n % 65536 ^ 0 * m; rw [Nat.pow_zero, Nat.mod_one, Nat.zero_mul], ⟨rfl, by rw [decide_eq_false (by omega)]; simp⟩, ((((Gr.refl _).alloc _ _).alloc _ _).alloc _ _).alloc _ _, ((n0.call ((Gr.refl _).alloc _ _)).call ((Gr.refl _).alloc _ _)).call ((Gr.refl _).alloc _ _), (n1.call ((Gr.refl _).alloc _ _)).call ((Gr.refl _).alloc _ _), n2.call ((Gr.refl _).alloc _ _), n3⟩
  case round =>
    clear n0 n1 n2 n3
    obtain ⟨i, Y, q, p, rfl, hi8, hq, HY, X, hG, hN, hM, hR, hO⟩ := hrel
    by_cases hi : i < 8
    · obtain ⟨e, he, he1, he2⟩ := dd_nat n i
      have E2 : Hid (e = n / 65536 ^ i % 65536) := he2
      have hcn := hN.d i hi
      rw [he] at hcn
      clear he he2
      have hib : decide ((i : Int) < 8) = true := by simp; omega
      go_wp2
      go_loopw [7] (fun kv w' => ∃ k Y q : Nat, ∃ p : Bool, kv = .int .i64 (k : Int) ∧ k ≤ 8 ∧ q < 340282366920938463463374607431768211456 ∧ Hid (Y = n % 65536 ^ i * m + e * 65536 ^ i * (m % 65536 ^ k)) ∧ Hid (q = Y % 340282366920938463463374607431768211456 ∧ p = (o2 || decide (340282366920938463463374607431768211456 ≤ Y))) ∧ Gr w w' ∧ NumAt w' w.heap.size n false ∧ NumAt w' (w.heap.size + 1) m o2 ∧ NumAt w' (w.heap.size + 1 + 1) 0 false ∧ NumAt w' (w.heap.size + 1 + 1 + 1) q p) (fun kv _ => 8 - (intOf kv).toNat)
      case atStart =>
        exact ⟨0, Y, q, p, rfl, by omega, hq, by unfold Hid; rw [Nat.pow_zero, Nat.mod_one, Nat.mul_zero, Nat.add_zero]; exact HY.out, X, hG, hN, hM, hR, hO⟩
      case round =>
        clear HY X hG hN hM hR hO hcn hq
        obtain ⟨k, Y, q, p, rfl, hk8, hq, HY, X, hG, hN, hM, hR, hO⟩ := hrel
        by_cases hk : k < 8
        · obtain ⟨f, hf, hf1, hf2⟩ := dd_nat m k
          have hcn := hN.d i hi
          have hcm := hM.d k hk
          obtain ⟨e', he', he1', he2'⟩ := dd_nat n i
          obtain rfl : e' = e := by rw [he2', E2.out]
          rw [he'] at hcn
          rw [hf] at hcm
          have hvb : e' * f ≤ 65535 * 65535 := Nat.mul_le_mul (by omega) (by omega)
          obtain ⟨v, hv⟩ : ∃ v : Nat, v = e' * f := ⟨_, rfl⟩
          have hvI : (e' : Int) * (f : Int) = (v : Int) := by rw [hv, Int.natCast_mul]
          have hvb' : v < 4294967296 := by omega
          have HS : Hid (Y + v * 65536 ^ (i + k) = n % 65536 ^ i * m + e' * 65536 ^ i * (m % 65536 ^ (k + 1))) := times_step n m i k e' f v Y hf2 hv HY.out
          obtain ⟨c0, c1, c2, c3, c4, c5, c6, c7, c8⟩ := hO.cells
          have fo := hO.f 8 (by omega)
          clear hf hf2 he' he2' hv hvb HY
          by_cases hbig : 0 < v ∧ 8 ≤ i + k
          · obtain ⟨hv0, hik⟩ := hbig
            have X' : Hid (q = (Y + v * 65536 ^ (i + k)) % 340282366920938463463374607431768211456 ∧ true = (o2 || decide (340282366920938463463374607431768211456 ≤ Y + v * 65536 ^ (i + k)))) := by
              obtain ⟨x1, x2⟩ := X.out
              obtain ⟨p1, p2⟩ := pow_past (i + k) hik v q hq hv0
              refine ⟨by rw [← p1, x1]; omega, ?_⟩
              have : 340282366920938463463374607431768211456 ≤ Y + v * 65536 ^ (i + k) := by omega
              rw [decide_eq_true this]; simp
            go_wp2
            go_quiet (fail)
            go_wp2
            refine ⟨⟨k + 1, Y + v * 65536 ^ (i + k), q, true, by go_num, by omega, hq, HS, X', (hG.drewN _).setCell (by dsimp only; omega) _, ?_, ?_, ?_, ?_⟩, by simp [intOf]; omega⟩
            · exact (hN.call ((Gr.refl _).drewN _)).far _ _ (by omega) _
            · exact (hM.call ((Gr.refl _).drewN _)).far _ _ (by omega) _
            · exact (hR.call ((Gr.refl _).drewN _)).far _ _ (by omega) _
            · exact (hO.call ((Gr.refl _).drewN _)).setOver true
          · by_cases hv0 : 0 < v
            · have hik : i + k < 8 := by omega
              clear hbig
              go_wp2
              go_quiet (fail)
              go_wp2_with (go_at_call 212; refine (plus_sum q hq p i k v (by omega) (by omega) _).mono ?_; rintro _ w2 ⟨q', p', rfl, hq', Z, g2⟩; have hO2 := (hO.call ((Gr.refl _).drewN _)).call g2; obtain ⟨d0, d1, d2, d3, d4, d5, d6, d7, d8⟩ := hO2.cells; obtain ⟨f0, f1, f2, f3, f4, f5, f6, f7, f8⟩ := hO2.open9)
              go_roundw
              case measure => simp [intOf]; omega
              refine ⟨k + 1, Y + v * 65536 ^ (i + k), q', p', by go_num, by omega, hq', HS, ?_, ((hG.drewN _).trans g2).store9 (by omega) _ _ _ _ _ _ _ _ _, ?_, ?_, ?_, hO2.store q' p'⟩
              · exact sum_step Y (v * 65536 ^ (i + k)) _ q q' p p' X.out.1 X.out.2 Z.out.1 Z.out.2
              · have hN2 := (hN.call ((Gr.refl _).drewN _)).call g2
                exact (((((((((hN2.far _ _ (by omega) _).far _ _ (by omega) _).far _ _ (by omega) _).far _ _ (by omega) _).far _ _ (by omega) _).far _ _ (by omega) _).far _ _ (by omega) _).far _ _ (by omega) _).far _ _ (by omega) _)
              · have hM2 := (hM.call ((Gr.refl _).drewN _)).call g2
                exact (((((((((hM2.far _ _ (by omega) _).far _ _ (by omega) _).far _ _ (by omega) _).far _ _ (by omega) _).far _ _ (by omega) _).far _ _ (by omega) _).far _ _ (by omega) _).far _ _ (by omega) _).far _ _ (by omega) _)
              · have hR2 := (hR.call ((Gr.refl _).drewN _)).call g2
                exact (((((((((hR2.far _ _ (by omega) _).far _ _ (by omega) _).far _ _ (by omega) _).far _ _ (by omega) _).far _ _ (by omega) _).far _ _ (by omega) _).far _ _ (by omega) _).far _ _ (by omega) _).far _ _ (by omega) _)
            · have hv1 : v ≤ 0 := by omega
              clear hbig
              go_wp2
              go_quiet (fail)
              go_wp2_with (go_at_call 212; refine (plus_sum q hq p i k v (by omega) (by omega) _).mono ?_; rintro _ w2 ⟨q', p', rfl, hq', Z, g2⟩; have hO2 := (hO.call ((Gr.refl _).drewN _)).call g2; obtain ⟨d0, d1, d2, d3, d4, d5, d6, d7, d8⟩ := hO2.cells; obtain ⟨f0, f1, f2, f3, f4, f5, f6, f7, f8⟩ := hO2.open9)
              go_roundw
              case measure => simp [intOf]; omega
              refine ⟨k + 1, Y + v * 65536 ^ (i + k), q', p', by go_num, by omega, hq', HS, ?_, ((hG.drewN _).trans g2).store9 (by omega) _ _ _ _ _ _ _ _ _, ?_, ?_, ?_, hO2.store q' p'⟩
              · exact sum_step Y (v * 65536 ^ (i + k)) _ q q' p p' X.out.1 X.out.2 Z.out.1 Z.out.2
              · have hN2 := (hN.call ((Gr.refl _).drewN _)).call g2
                exact (((((((((hN2.far _ _ (by omega) _).far _ _ (by omega) _).far _ _ (by omega) _).far _ _ (by omega) _).far _ _ (by omega) _).far _ _ (by omega) _).far _ _ (by omega) _).far _ _ (by omega) _).far _ _ (by omega) _)
              · have hM2 := (hM.call ((Gr.refl _).drewN _)).call g2
                exact (((((((((hM2.far _ _ (by omega) _).far _ _ (by omega) _).far _ _ (by omega) _).far _ _ (by omega) _).far _ _ (by omega) _).far _ _ (by omega) _).far _ _ (by omega) _).far _ _ (by omega) _).far _ _ (by omega) _)
              · have hR2 := (hR.call ((Gr.refl _).drewN _)).call g2
                exact (((((((((hR2.far _ _ (by omega) _).far _ _ (by omega) _).far _ _ (by omega) _).far _ _ (by omega) _).far _ _ (by omega) _).far _ _ (by omega) _).far _ _ (by omega) _).far _ _ (by omega) _).far _ _ (by omega) _)
        · have hk9 : k = 8 := by omega
          have HY' : Hid (Y = n % 65536 ^ (i + 1) * m) := times_row n m i e Y hm E2.out (by rw [HY.out, hk9])
          clear HY hk9
          go_wp2
          refine ⟨⟨i + 1, Y, q, p, by go_num, by omega, hq, HY', X, hG, hN, hM, hR, hO⟩, by simp [intOf]; omega⟩
    · have hi9 : i = 8 := by omega
      obtain ⟨r0, r1, r2, r3, r4, r5, r6, r7, r8⟩ := hR.cells
      obtain ⟨f0, f1, f2, f3, f4, f5, f6, f7, f8⟩ := hR.open9
      obtain ⟨c0, c1, c2, c3, c4, c5, c6, c7, c8⟩ := hO.cells
      have E : Hid (q = n * m % 340282366920938463463374607431768211456 ∧ p = (o2 || decide (340282366920938463463374607431768211456 ≤ n * m))) := by
        have h1 := HY.out
        rw [hi9, Nat.mod_eq_of_lt (show n < 65536 ^ 8 from hn)] at h1
        have h2 := X.out
        rw [h1] at h2
        exact h2
      clear HY X hi9 hN hM hR hO
      go_wp2
      exact bodyPost_ret (v := Nm q p) (by simp [results, Tryz.results205, go_sem, r0, r1, r2, r3, r4, r5, r6, r7, r8]) rfl ⟨by rw [← E.out.1, ← E.out.2], hG.store9 (by omega) _ _ _ _ _ _ _ _ _⟩

end Go.Proofs.YtbnljabeccebiaaGreat
