/- The reference's Plus, as a contract. -/
import Derived.Test.YtblfmhdcgmkpgaaPlus
import Derived.Deep.RegionWith
namespace Go.Proofs.Ytblfmhdcgmkpgaa
open Go.RowKit

theorem Gr.undrew {w w' : World} (g : Gr w.drew w') : Gr w w' := (Gr.refl w).drew.trans g
/-- plus, its answer under names. -/
theorem plus_ex (n : Nat) (hn : n < 340282366920938463463374607431768211456) (o : Bool) (k v : Nat) (hk : k ≤ 14) (hv : v < 8589934592) (w : World) :
    Calls Try.prog 68 #[Nm n o, .int .i64 (k : Int), .int .i64 (v : Int)] w fun e w' => ∃ q : Nat, ∃ p : Bool, e = .returned (Nm q p) ∧ q < 340282366920938463463374607431768211456 ∧
      Hid (q = (n + v * 65536 ^ k) % 340282366920938463463374607431768211456 ∧ p = (o || decide (340282366920938463463374607431768211456 ≤ n + v * 65536 ^ k))) ∧ Gr w w' := by
  refine (plus_any n hn o k v hk hv w).mono ?_
  rintro e w' ⟨rfl, g⟩
  exact ⟨_, _, rfl, Nat.mod_lt _ (by omega), ⟨rfl, rfl⟩, g⟩
/-- What is left of a number that is added to part by part, and whether it was ever too great. -/
theorem sum_step (Y d : Nat) (ov : Bool) (q q' : Nat) (p p' : Bool) (hq : q = Y % 340282366920938463463374607431768211456) (hp : p = (ov || decide (340282366920938463463374607431768211456 ≤ Y)))
    (hq' : q' = (q + d) % 340282366920938463463374607431768211456) (hp' : p' = (p || decide (340282366920938463463374607431768211456 ≤ q + d))) :
    q' = (Y + d) % 340282366920938463463374607431768211456 ∧ p' = (ov || decide (340282366920938463463374607431768211456 ≤ Y + d)) := by
  subst hq hp hq' hp'
  refine ⟨by omega, ?_⟩
  by_cases h : 340282366920938463463374607431768211456 ≤ Y
  · rw [decide_eq_true h, decide_eq_true (show 340282366920938463463374607431768211456 ≤ Y + d by omega)]; simp
  · rw [Nat.mod_eq_of_lt (by omega), decide_eq_false h]; simp

set_option maxHeartbeats 4000000 in
theorem sum_false (n m : Nat) (hn : n < 340282366920938463463374607431768211456) (hm : m < 340282366920938463463374607431768211456) (o2 : Bool) (w : World) :
    Calls Try.prog 58 #[Nm n false, Nm m o2] w fun e w' =>
      e = .returned (Nm ((n + m) % 340282366920938463463374607431768211456) (o2 || decide (340282366920938463463374607431768211456 ≤ n + m))) ∧ Gr w w' := by
  have n0 : NumAt (w.alloc (.cells #[.int .i64 (dd n 0), .int .i64 (dd n 1), .int .i64 (dd n 2), .int .i64 (dd n 3), .int .i64 (dd n 4), .int .i64 (dd n 5), .int .i64 (dd n 6), .int .i64 (dd n 7), .bool o2] 79)) w.heap.size n o2 := NumAt.new w n o2 79
  have n1 := NumAt.new (w.alloc (.cells #[.int .i64 (dd n 0), .int .i64 (dd n 1), .int .i64 (dd n 2), .int .i64 (dd n 3), .int .i64 (dd n 4), .int .i64 (dd n 5), .int .i64 (dd n 6), .int .i64 (dd n 7), .bool o2] 79)) m o2 79
  have n2 := NumAt.new ((w.alloc (.cells #[.int .i64 (dd n 0), .int .i64 (dd n 1), .int .i64 (dd n 2), .int .i64 (dd n 3), .int .i64 (dd n 4), .int .i64 (dd n 5), .int .i64 (dd n 6), .int .i64 (dd n 7), .bool o2] 79)).alloc (.cells #[.int .i64 (dd m 0), .int .i64 (dd m 1), .int .i64 (dd m 2), .int .i64 (dd m 3), .int .i64 (dd m 4), .int .i64 (dd m 5), .int .i64 (dd m 6), .int .i64 (dd m 7), .bool o2] 79)) 0 false 79
  simp only [World.size_alloc] at n1 n2
  go_enter Try.func58, Try.ntmps58
  go_wp2
  go_loopw [5] (fun iv w' => ∃ k q : Nat, ∃ p : Bool, iv = .int .i64 (k : Int) ∧ k ≤ 8 ∧ q < 340282366920938463463374607431768211456 ∧ Hid (q = (n + m % 65536 ^ k) % 340282366920938463463374607431768211456 ∧ p = (o2 || decide (340282366920938463463374607431768211456 ≤ n + m % 65536 ^ k))) ∧ Gr w w' ∧ NumAt w' w.heap.size q p ∧ NumAt w' (w.heap.size + 1) m o2 ∧ NumAt w' (w.heap.size + 1 + 1) 0 false) (fun iv _ => 8 - (intOf iv).toNat)
  case atStart =>
    refine ⟨0, n, o2, rfl, by omega, hn, ?_, (((Gr.refl _).alloc _ _).alloc _ _).alloc _ _, (n0.call ((Gr.refl _).alloc _ _)).call ((Gr.refl _).alloc _ _), n1.call ((Gr.refl _).alloc _ _), n2⟩
    rw [Nat.pow_zero, Nat.mod_one, Nat.add_zero]
    exact ⟨(Nat.mod_eq_of_lt hn).symm, by rw [decide_eq_false (by omega)]; simp⟩
  case round =>
    clear n0 n1 n2
    obtain ⟨k, q, p, rfl, hk, hq, X, hG, hN, hM, hR⟩ := hrel
    obtain ⟨c0, c1, c2, c3, c4, c5, c6, c7, c8⟩ := hN.cells
    by_cases hk8 : k < 8
    · obtain ⟨e, he, he1, he2⟩ := dd_nat m k
      have E2 : Hid (e = m / 65536 ^ k % 65536) := he2
      have hcell := hM.d k hk8
      rw [he] at hcell
      clear he he2
      go_wp2
      go_region_with (go_at_call 68; refine (plus_ex q hq p k e (by omega) (by omega) _).mono ?_; rintro _ w2 ⟨q', p', rfl, hq', Y, g2⟩; have hN2 := hN.call g2.undrew; obtain ⟨d0, d1, d2, d3, d4, d5, d6, d7, d8⟩ := hN2.cells; obtain ⟨f0, f1, f2, f3, f4, f5, f6, f7, f8⟩ := hN2.open9)
      all_goals
        go_wp2
        refine ⟨⟨k + 1, q', p', by go_num, by omega, hq', ?_, (hG.trans g2.undrew).store9 (by omega) _ _ _ _ _ _ _ _ _, hN2.store q' p', ?_, ?_⟩, by simp [intOf]; omega⟩
        · have := sum_step (n + m % 65536 ^ k) (e * 65536 ^ k) _ q q' p p' X.out.1 X.out.2 Y.out.1 Y.out.2
          rw [Nat.pow_succ, Nat.mod_mul, Nat.mul_comm (65536 ^ k), ← E2.out, ← Nat.add_assoc]
          exact this
        · have hM2 := hM.call g2.undrew
          exact (((((((((hM2.far _ _ (by omega) _).far _ _ (by omega) _).far _ _ (by omega) _).far _ _ (by omega) _).far _ _ (by omega) _).far _ _ (by omega) _).far _ _ (by omega) _).far _ _ (by omega) _).far _ _ (by omega) _)
        · have hR2 := hR.call g2.undrew
          exact (((((((((hR2.far _ _ (by omega) _).far _ _ (by omega) _).far _ _ (by omega) _).far _ _ (by omega) _).far _ _ (by omega) _).far _ _ (by omega) _).far _ _ (by omega) _).far _ _ (by omega) _).far _ _ (by omega) _)
    · have hk9 : k = 8 := by omega
      obtain ⟨r0, r1, r2, r3, r4, r5, r6, r7, r8⟩ := hR.cells
      obtain ⟨f0, f1, f2, f3, f4, f5, f6, f7, f8⟩ := hR.open9
      have hx := X.out
      rw [hk9, Nat.mod_eq_of_lt (show m < 65536 ^ 8 from hm)] at hx
      have X' : Hid (q = (n + m) % 340282366920938463463374607431768211456 ∧ p = (o2 || decide (340282366920938463463374607431768211456 ≤ n + m))) := hx
      clear hx X hk9 hN hM hR
      go_wp2
      refine bodyPost_ret (v := Nm q p) (by simp [results, Try.results58, go_sem, r0, r1, r2, r3, r4, r5, r6, r7, r8]) rfl ⟨by rw [← X'.out.1, ← X'.out.2], hG.store9 (by omega) _ _ _ _ _ _ _ _ _⟩

set_option maxHeartbeats 4000000 in
theorem sum_true (n m : Nat) (hn : n < 340282366920938463463374607431768211456) (hm : m < 340282366920938463463374607431768211456) (o2 : Bool) (w : World) :
    Calls Try.prog 58 #[Nm n true, Nm m o2] w fun e w' =>
      e = .returned (Nm ((n + m) % 340282366920938463463374607431768211456) (true || decide (340282366920938463463374607431768211456 ≤ n + m))) ∧ Gr w w' := by
  have n0 : NumAt (w.alloc (.cells #[.int .i64 (dd n 0), .int .i64 (dd n 1), .int .i64 (dd n 2), .int .i64 (dd n 3), .int .i64 (dd n 4), .int .i64 (dd n 5), .int .i64 (dd n 6), .int .i64 (dd n 7), .bool true] 79)) w.heap.size n true := NumAt.new w n true 79
  have n1 := NumAt.new (w.alloc (.cells #[.int .i64 (dd n 0), .int .i64 (dd n 1), .int .i64 (dd n 2), .int .i64 (dd n 3), .int .i64 (dd n 4), .int .i64 (dd n 5), .int .i64 (dd n 6), .int .i64 (dd n 7), .bool true] 79)) m o2 79
  have n2 := NumAt.new ((w.alloc (.cells #[.int .i64 (dd n 0), .int .i64 (dd n 1), .int .i64 (dd n 2), .int .i64 (dd n 3), .int .i64 (dd n 4), .int .i64 (dd n 5), .int .i64 (dd n 6), .int .i64 (dd n 7), .bool true] 79)).alloc (.cells #[.int .i64 (dd m 0), .int .i64 (dd m 1), .int .i64 (dd m 2), .int .i64 (dd m 3), .int .i64 (dd m 4), .int .i64 (dd m 5), .int .i64 (dd m 6), .int .i64 (dd m 7), .bool o2] 79)) 0 false 79
  simp only [World.size_alloc] at n1 n2
  go_enter Try.func58, Try.ntmps58
  go_wp2
  go_loopw [5] (fun iv w' => ∃ k q : Nat, ∃ p : Bool, iv = .int .i64 (k : Int) ∧ k ≤ 8 ∧ q < 340282366920938463463374607431768211456 ∧ Hid (q = (n + m % 65536 ^ k) % 340282366920938463463374607431768211456 ∧ p = (true || decide (340282366920938463463374607431768211456 ≤ n + m % 65536 ^ k))) ∧ Gr w w' ∧ NumAt w' w.heap.size q p ∧ NumAt w' (w.heap.size + 1) m o2 ∧ NumAt w' (w.heap.size + 1 + 1) 0 false) (fun iv _ => 8 - (intOf iv).toNat)
  case atStart =>
    refine ⟨0, n, true, rfl, by omega, hn, ?_, (((Gr.refl _).alloc _ _).alloc _ _).alloc _ _, (n0.call ((Gr.refl _).alloc _ _)).call ((Gr.refl _).alloc _ _), n1.call ((Gr.refl _).alloc _ _), n2⟩
    rw [Nat.pow_zero, Nat.mod_one, Nat.add_zero]
    exact ⟨(Nat.mod_eq_of_lt hn).symm, by rw [decide_eq_false (by omega)]; simp⟩
  case round =>
    clear n0 n1 n2
    obtain ⟨k, q, p, rfl, hk, hq, X, hG, hN, hM, hR⟩ := hrel
    obtain ⟨c0, c1, c2, c3, c4, c5, c6, c7, c8⟩ := hN.cells
    by_cases hk8 : k < 8
    · obtain ⟨e, he, he1, he2⟩ := dd_nat m k
      have E2 : Hid (e = m / 65536 ^ k % 65536) := he2
      have hcell := hM.d k hk8
      rw [he] at hcell
      clear he he2
      go_wp2
      go_region_with (go_at_call 68; refine (plus_ex q hq p k e (by omega) (by omega) _).mono ?_; rintro _ w2 ⟨q', p', rfl, hq', Y, g2⟩; have hN2 := hN.call g2.undrew; obtain ⟨d0, d1, d2, d3, d4, d5, d6, d7, d8⟩ := hN2.cells; obtain ⟨f0, f1, f2, f3, f4, f5, f6, f7, f8⟩ := hN2.open9)
      all_goals
        go_wp2
        refine ⟨⟨k + 1, q', p', by go_num, by omega, hq', ?_, (hG.trans g2.undrew).store9 (by omega) _ _ _ _ _ _ _ _ _, hN2.store q' p', ?_, ?_⟩, by simp [intOf]; omega⟩
        · have := sum_step (n + m % 65536 ^ k) (e * 65536 ^ k) _ q q' p p' X.out.1 X.out.2 Y.out.1 Y.out.2
          rw [Nat.pow_succ, Nat.mod_mul, Nat.mul_comm (65536 ^ k), ← E2.out, ← Nat.add_assoc]
          exact this
        · have hM2 := hM.call g2.undrew
          exact (((((((((hM2.far _ _ (by omega) _).far _ _ (by omega) _).far _ _ (by omega) _).far _ _ (by omega) _).far _ _ (by omega) _).far _ _ (by omega) _).far _ _ (by omega) _).far _ _ (by omega) _).far _ _ (by omega) _)
        · have hR2 := hR.call g2.undrew
          exact (((((((((hR2.far _ _ (by omega) _).far _ _ (by omega) _).far _ _ (by omega) _).far _ _ (by omega) _).far _ _ (by omega) _).far _ _ (by omega) _).far _ _ (by omega) _).far _ _ (by omega) _).far _ _ (by omega) _)
    · have hk9 : k = 8 := by omega
      obtain ⟨r0, r1, r2, r3, r4, r5, r6, r7, r8⟩ := hR.cells
      obtain ⟨f0, f1, f2, f3, f4, f5, f6, f7, f8⟩ := hR.open9
      have hx := X.out
      rw [hk9, Nat.mod_eq_of_lt (show m < 65536 ^ 8 from hm)] at hx
      have X' : Hid (q = (n + m) % 340282366920938463463374607431768211456 ∧ p = (true || decide (340282366920938463463374607431768211456 ≤ n + m))) := hx
      clear hx X hk9 hN hM hR
      go_wp2
      refine bodyPost_ret (v := Nm q p) (by simp [results, Try.results58, go_sem, r0, r1, r2, r3, r4, r5, r6, r7, r8]) rfl ⟨by rw [← X'.out.1, ← X'.out.2], hG.store9 (by omega) _ _ _ _ _ _ _ _ _⟩

theorem sum_any (n m : Nat) (hn : n < 340282366920938463463374607431768211456) (hm : m < 340282366920938463463374607431768211456) (o1 o2 : Bool) (w : World) :
    Calls Try.prog 58 #[Nm n o1, Nm m o2] w fun e w' =>
      e = .returned (Nm ((n + m) % 340282366920938463463374607431768211456) (o1 || o2 || decide (340282366920938463463374607431768211456 ≤ n + m))) ∧ Gr w w' := by
  cases o1
  · simpa using sum_false n m hn hm o2 w
  · simpa using sum_true n m hn hm o2 w

end Go.Proofs.Ytblfmhdcgmkpgaa
