/- WideOrder: comparing, taking away and roots agree: the walk. -/
import Derived.Test.YtlckjohmllagoaaAwake
import Derived.Deep.RegionWith
namespace Go.Proofs.Ytlckjohmllagoaa
open Go.RowKit

/-- Two parameters of two words each, behind calls. -/
theorem Gr.args2 {w w' : World} {x y u v : Value} {t s : TypeId} (h : Gr ((w.alloc (.cells #[x, y] t)).alloc (.cells #[u, v] s)) w') :
    w'.cell? ⟨w.heap.size, 0, none⟩ = some x ∧ w'.cell? ⟨w.heap.size, 1, none⟩ = some y ∧ w'.cell? ⟨w.heap.size + 1, 0, none⟩ = some u ∧ w'.cell? ⟨w.heap.size + 1, 1, none⟩ = some v :=
  ⟨h.keeps (by simp [go_sem]), h.keeps (by simp [go_sem]), h.keeps (by simp [go_sem]), h.keeps (by simp [go_sem])⟩
theorem call_keeps4 {W w' : World} {p q r s : Addr} {x y u v : Value} (h : Gr W w') (hs : W.cell? p = some x ∧ W.cell? q = some y ∧ W.cell? r = some u ∧ W.cell? s = some v) :
    w'.cell? p = some x ∧ w'.cell? q = some y ∧ w'.cell? r = some u ∧ w'.cell? s = some v := ⟨h.keeps hs.1, h.keeps hs.2.1, h.keeps hs.2.2.1, h.keeps hs.2.2.2⟩
theorem cmp_val (a b : Nat) (v : Int) (h : cmp3 a b = v) (w : World) :
    Calls Try.prog 16 #[Wd a, Wd b] w fun e w' => e = .returned (.int .i64 v) ∧ Gr w w' := by
  subst h; exact cmp_any a b w
theorem sub_self (a : Nat) (ha : a < 340282366920938463463374607431768211456) (w : World) :
    Calls Try.prog 11 #[Wd a, Wd a] w fun e w' => e = .returned (.tuple #[Wd 0, .int .i64 0]) ∧ Gr w w' := by
  have := sub_ok a a ha (Nat.le_refl _) w
  rw [Nat.sub_self] at this; exact this
theorem root_mono (a b r s : Nat) (h : b ≤ a) (h1 : IsRoot a r) (h2 : IsRoot b s) : s ≤ r := by
  apply Nat.le_of_not_lt; intro hc
  have := sq_le (show r + 1 ≤ s by omega)
  obtain ⟨_, _⟩ := h1; obtain ⟨_, _⟩ := h2; omega

set_option maxHeartbeats 2000000 in
theorem order_lt1 (a b : Nat) (hb : b < 340282366920938463463374607431768211456) (h : a < b) (h1 : (hi a == hi b) = false) (w : World) :
    Calls Try.prog 8 #[Wd a, Wd b] w fun e w' => e = .returned (.bool true) ∧ Gr w w' := by
  have hm1 : Hid (cmp3 a b = -1) := by unfold Hid cmp3; rw [if_pos h]
  have hm2 : Hid (cmp3 b a = 1) := by unfold Hid cmp3; rw [if_neg (by omega), if_neg (by omega)]
  go_enter Try.func8, Try.ntmps8
  go_wp2_with fail
  refine (cmp_val a b (-1) hm1.out _).mono ?_
  rintro e w1 ⟨rfl, g1⟩
  obtain ⟨a0, a1, a2, a3⟩ := g1.args2
  go_wp2_with fail
  refine (sub_no a b hb h _).mono ?_
  rintro e w2 ⟨rfl, g2⟩
  have G2 := g1.trans g2
  obtain ⟨b0, b1, b2, b3⟩ := (G2.alloc #[.int .u64 0, .int .u64 0] 24).args2
  clear a0 a1 a2 a3
  go_wp2_with fail
  refine (cmp_val b a (1) hm2.out _).mono ?_
  rintro e w3 ⟨rfl, g3⟩
  have G3 := (G2.alloc #[.int .u64 0, .int .u64 0] 24).trans g3
  obtain ⟨c0, c1, c2, c3⟩ := G3.args2
  clear b0 b1 b2 b3
  go_wp2_with fail
  go_region_with (go_at_call 13; refine (awake_any _).mono ?_; rintro e w4 ⟨rfl, g4⟩)
  all_goals
    go_wp2
    go_ret
    exact ⟨rfl, ((((Gr.refl _).alloc _ _).alloc _ _).trans G3.drew).trans g4⟩

set_option maxHeartbeats 2000000 in
theorem order_lt2 (a b : Nat) (hb : b < 340282366920938463463374607431768211456) (h : a < b) (h1 : (hi a == hi b) = true) (h2 : (lo a == lo b) = false) (w : World) :
    Calls Try.prog 8 #[Wd a, Wd b] w fun e w' => e = .returned (.bool true) ∧ Gr w w' := by
  have hm1 : Hid (cmp3 a b = -1) := by unfold Hid cmp3; rw [if_pos h]
  have hm2 : Hid (cmp3 b a = 1) := by unfold Hid cmp3; rw [if_neg (by omega), if_neg (by omega)]
  go_enter Try.func8, Try.ntmps8
  go_wp2_with fail
  refine (cmp_val a b (-1) hm1.out _).mono ?_
  rintro e w1 ⟨rfl, g1⟩
  obtain ⟨a0, a1, a2, a3⟩ := g1.args2
  go_wp2_with fail
  refine (sub_no a b hb h _).mono ?_
  rintro e w2 ⟨rfl, g2⟩
  have G2 := g1.trans g2
  obtain ⟨b0, b1, b2, b3⟩ := (G2.alloc #[.int .u64 0, .int .u64 0] 24).args2
  clear a0 a1 a2 a3
  go_wp2_with fail
  refine (cmp_val b a (1) hm2.out _).mono ?_
  rintro e w3 ⟨rfl, g3⟩
  have G3 := (G2.alloc #[.int .u64 0, .int .u64 0] 24).trans g3
  obtain ⟨c0, c1, c2, c3⟩ := G3.args2
  clear b0 b1 b2 b3
  go_wp2_with fail
  go_region_with (go_at_call 13; refine (awake_any _).mono ?_; rintro e w4 ⟨rfl, g4⟩)
  all_goals
    go_wp2
    go_ret
    exact ⟨rfl, ((((Gr.refl _).alloc _ _).alloc _ _).trans G3.drew).trans g4⟩

set_option maxHeartbeats 2000000 in
theorem order_gt1 (a b : Nat) (ha : a < 340282366920938463463374607431768211456) (hb : b < 340282366920938463463374607431768211456) (h : b < a) (h1 : (hi a == hi b) = false) (w : World) :
    Calls Try.prog 8 #[Wd a, Wd b] w fun e w' => e = .returned (.bool true) ∧ Gr w w' := by
  have hm1 : Hid (cmp3 a b = 1) := by unfold Hid cmp3; rw [if_neg (by omega), if_neg (by omega)]
  have hm2 : Hid (cmp3 b a = -1) := by unfold Hid cmp3; rw [if_pos h]
  go_enter Try.func8, Try.ntmps8
  go_wp2_with fail
  refine (cmp_val a b (1) hm1.out _).mono ?_
  rintro e w1 ⟨rfl, g1⟩
  obtain ⟨a0, a1, a2, a3⟩ := g1.args2
  go_wp2_with fail
  refine (sub_ok a b ha (by omega) _).mono ?_
  rintro e w2 ⟨rfl, g2⟩
  have G2 := g1.trans g2
  obtain ⟨b0, b1, b2, b3⟩ := (G2.alloc #[.int .u64 (hi (a - b)), .int .u64 (lo (a - b))] 24).args2
  clear a0 a1 a2 a3
  go_wp2_with fail
  refine (cmp_val b a (-1) hm2.out _).mono ?_
  rintro e w3 ⟨rfl, g3⟩
  have G3 := (G2.alloc #[.int .u64 (hi (a - b)), .int .u64 (lo (a - b))] 24).trans g3
  obtain ⟨c0, c1, c2, c3⟩ := G3.args2
  clear b0 b1 b2 b3
  go_wp2_with fail
  go_region_held3 (fun w' => w'.cell? ⟨w.heap.size, 0, none⟩ = some (.int .u64 (hi a)) ∧ w'.cell? ⟨w.heap.size, 1, none⟩ = some (.int .u64 (lo a)) ∧ w'.cell? ⟨w.heap.size + 1, 0, none⟩ = some (.int .u64 (hi b)) ∧ w'.cell? ⟨w.heap.size + 1, 1, none⟩ = some (.int .u64 (lo b))) (first | exact ⟨c0, c1, c2, c3⟩ | exact call_keeps4 (by assumption) (by assumption))
    (first
      | (go_at_call 13; refine (awake_any _).mono ?_; rintro e w4 ⟨rfl, g4⟩)
      | (go_at_call_of 17 (hi a); refine (sqrt_any a ha _).mono ?_; rintro e w5 ⟨r, rfl, hr, hroot, g5⟩)
      | (go_at_call_of 17 (hi b); refine (sqrt_any b hb _).mono ?_; rintro e w6 ⟨s, rfl, hs, hsoot, g6⟩))
  all_goals
    go_wp2
    go_ret
    have hle := root_mono a b r s (by omega) hroot hsoot
    exact ⟨ret_bool (decide_eq_true (by omega)), by repeat (first | exact ((Gr.refl _).alloc _ _).alloc _ _ | apply Gr.drew | refine Gr.trans ?_ g6 | refine Gr.trans ?_ g5 | refine Gr.trans ?_ g4 | refine Gr.trans ?_ G3)⟩

set_option maxHeartbeats 2000000 in
theorem order_gt2 (a b : Nat) (ha : a < 340282366920938463463374607431768211456) (hb : b < 340282366920938463463374607431768211456) (h : b < a) (h1 : (hi a == hi b) = true) (h2 : (lo a == lo b) = false) (w : World) :
    Calls Try.prog 8 #[Wd a, Wd b] w fun e w' => e = .returned (.bool true) ∧ Gr w w' := by
  have hm1 : Hid (cmp3 a b = 1) := by unfold Hid cmp3; rw [if_neg (by omega), if_neg (by omega)]
  have hm2 : Hid (cmp3 b a = -1) := by unfold Hid cmp3; rw [if_pos h]
  go_enter Try.func8, Try.ntmps8
  go_wp2_with fail
  refine (cmp_val a b (1) hm1.out _).mono ?_
  rintro e w1 ⟨rfl, g1⟩
  obtain ⟨a0, a1, a2, a3⟩ := g1.args2
  go_wp2_with fail
  refine (sub_ok a b ha (by omega) _).mono ?_
  rintro e w2 ⟨rfl, g2⟩
  have G2 := g1.trans g2
  obtain ⟨b0, b1, b2, b3⟩ := (G2.alloc #[.int .u64 (hi (a - b)), .int .u64 (lo (a - b))] 24).args2
  clear a0 a1 a2 a3
  go_wp2_with fail
  refine (cmp_val b a (-1) hm2.out _).mono ?_
  rintro e w3 ⟨rfl, g3⟩
  have G3 := (G2.alloc #[.int .u64 (hi (a - b)), .int .u64 (lo (a - b))] 24).trans g3
  obtain ⟨c0, c1, c2, c3⟩ := G3.args2
  clear b0 b1 b2 b3
  go_wp2_with fail
  go_region_held3 (fun w' => w'.cell? ⟨w.heap.size, 0, none⟩ = some (.int .u64 (hi a)) ∧ w'.cell? ⟨w.heap.size, 1, none⟩ = some (.int .u64 (lo a)) ∧ w'.cell? ⟨w.heap.size + 1, 0, none⟩ = some (.int .u64 (hi b)) ∧ w'.cell? ⟨w.heap.size + 1, 1, none⟩ = some (.int .u64 (lo b))) (first | exact ⟨c0, c1, c2, c3⟩ | exact call_keeps4 (by assumption) (by assumption))
    (first
      | (go_at_call 13; refine (awake_any _).mono ?_; rintro e w4 ⟨rfl, g4⟩)
      | (go_at_call_of 17 (hi a); refine (sqrt_any a ha _).mono ?_; rintro e w5 ⟨r, rfl, hr, hroot, g5⟩)
      | (go_at_call_of 17 (hi b); refine (sqrt_any b hb _).mono ?_; rintro e w6 ⟨s, rfl, hs, hsoot, g6⟩))
  all_goals
    go_wp2
    go_ret
    have hle := root_mono a b r s (by omega) hroot hsoot
    exact ⟨ret_bool (decide_eq_true (by omega)), by repeat (first | exact ((Gr.refl _).alloc _ _).alloc _ _ | apply Gr.drew | refine Gr.trans ?_ g6 | refine Gr.trans ?_ g5 | refine Gr.trans ?_ g4 | refine Gr.trans ?_ G3)⟩

set_option maxHeartbeats 2000000 in
theorem order_eq (a : Nat) (ha : a < 340282366920938463463374607431768211456) (w : World) :
    Calls Try.prog 8 #[Wd a, Wd a] w fun e w' => e = .returned (.bool true) ∧ Gr w w' := by
  have hm1 : Hid (cmp3 a a = 0) := by unfold Hid cmp3; simp
  have hm2 : Hid (cmp3 a a = 0) := by unfold Hid cmp3; simp
  go_enter Try.func8, Try.ntmps8
  go_wp2_with fail
  refine (cmp_val a a (0) hm1.out _).mono ?_
  rintro e w1 ⟨rfl, g1⟩
  obtain ⟨a0, a1, a2, a3⟩ := g1.args2
  go_wp2_with fail
  refine (sub_self a ha _).mono ?_
  rintro e w2 ⟨rfl, g2⟩
  have G2 := g1.trans g2
  obtain ⟨b0, b1, b2, b3⟩ := (G2.alloc #[.int .u64 (hi 0), .int .u64 (lo 0)] 24).args2
  clear a0 a1 a2 a3
  go_wp2_with fail
  refine (cmp_val a a (0) hm2.out _).mono ?_
  rintro e w3 ⟨rfl, g3⟩
  have G3 := (G2.alloc #[.int .u64 (hi 0), .int .u64 (lo 0)] 24).trans g3
  obtain ⟨c0, c1, c2, c3⟩ := G3.args2
  clear b0 b1 b2 b3
  go_wp2_with fail
  go_region_with (go_at_call 13; refine (awake_any _).mono ?_; rintro e w4 ⟨rfl, g4⟩)
  all_goals
    go_wp2
    go_ret
    exact ⟨rfl, ((((Gr.refl _).alloc _ _).alloc _ _).trans G3.drew).trans g4⟩

theorem order_any (a b : Nat) (ha : a < 340282366920938463463374607431768211456) (hb : b < 340282366920938463463374607431768211456) (w : World) :
    Calls Try.prog 8 #[Wd a, Wd b] w fun e w' => e = .returned (.bool true) ∧ Gr w w' := by
  by_cases h : a = b
  · subst h; exact order_eq a ha w
  by_cases h1 : hi a = hi b
  · have h2 : (hi a == hi b) = true := by simpa using h1
    have h3 : (lo a == lo b) = false := by rw [beq_eq_false_iff_ne]; unfold hi at h1; unfold lo; omega
    by_cases h4 : a < b
    · exact order_lt2 a b hb h4 h2 h3 w
    · exact order_gt2 a b ha hb (by omega) h2 h3 w
  · have h2 : (hi a == hi b) = false := by simpa using h1
    by_cases h4 : a < b
    · exact order_lt1 a b hb h4 h2 w
    · exact order_gt1 a b ha hb (by omega) h2 w

end Go.Proofs.Ytlckjohmllagoaa
