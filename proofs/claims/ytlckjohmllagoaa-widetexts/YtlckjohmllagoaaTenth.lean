/- The reference's Small and tenth, as contracts. -/
import Derived.Test.YtlckjohmllagoaaTimesTrue
import Derived.Test.YtlckjohmllagoaaLess
namespace Go.Proofs.Ytlckjohmllagoaa
open Go.RowKit

theorem plus_zero (v : Nat) (hv : v < 65536) (w : World) :
    Calls Try.prog 36 #[.agg #[.int .i64 0, .int .i64 0, .int .i64 0, .int .i64 0, .int .i64 0, .int .i64 0, .int .i64 0, .int .i64 0, .bool false], .int .i64 0, .int .i64 (v : Int)] w fun e w' => e = .returned (Nm v false) ∧ Gr w w' := by
  have := plus_any 0 (by omega) false 0 v (by omega) (by omega) w
  rw [Nat.pow_zero, Nat.mul_one, Nat.zero_add, Nat.mod_eq_of_lt (by omega), decide_eq_false (by omega)] at this
  exact this
set_option maxHeartbeats 1000000 in
theorem small_any (v : Nat) (hv : v < 65536) (w : World) :
    Calls Try.prog 33 #[.int .i64 (v : Int)] w fun e w' => e = .returned (Nm v false) ∧ Gr w w' := by
  go_enter Try.func33, Try.ntmps33
  go_wp2_with fail
  refine (plus_zero v hv _).mono ?_
  rintro e w1 ⟨rfl, g1⟩
  have hR := ((NumAt.zero w 43).call ((Gr.refl _).alloc #[.int .i64 0, .int .i64 0, .int .i64 0, .int .i64 0, .int .i64 0, .int .i64 0, .int .i64 0, .int .i64 0, .bool false] 43)).call g1
  obtain ⟨r0, r1, r2, r3, r4, r5, r6, r7, r8⟩ := hR.cells
  obtain ⟨f0, f1, f2, f3, f4, f5, f6, f7, f8⟩ := hR.open9
  go_wp2
  exact bodyPost_ret (v := Nm v false) (by simp [results, Try.results33, go_sem, r0, r1, r2, r3, r4, r5, r6, r7, r8]) rfl ⟨rfl, ((((Gr.refl _).alloc _ _).alloc _ _).trans g1).store9 (by omega) _ _ _ _ _ _ _ _ _⟩

/-- One digit of the division by ten. -/
theorem tenth_step (n t e r : Nat) (he : e = n / 65536 ^ t % 65536) (hr : r = n / 65536 ^ (t + 1) % 10) :
    (r * 65536 + e) / 10 = n / 10 / 65536 ^ t % 65536 ∧ (r * 65536 + e) % 10 = n / 65536 ^ t % 10 := by
  have h := up_digit n t
  rw [← he] at h
  have h2 : n / 10 / 65536 ^ t = n / 65536 ^ t / 10 := by rw [Nat.div_div_eq_div_mul, Nat.div_div_eq_div_mul, Nat.mul_comm]
  rw [h2, h]
  generalize n / 65536 ^ (t + 1) = q at *
  omega

set_option maxHeartbeats 2000000 in
theorem tenth_any (n : Nat) (hn : n < 340282366920938463463374607431768211456) (o : Bool) (w : World) :
    Calls Try.prog 35 #[Nm n o] w fun e w' => e = .returned (.tuple #[Nm (n / 10) o, .int .i64 ((n % 10 : Nat) : Int)]) ∧ Gr w w' := by
  have n0 := (NumAt.new w n o 43).call ((Gr.refl _).alloc #[.int .i64 0, .int .i64 0, .int .i64 0, .int .i64 0, .int .i64 0, .int .i64 0, .int .i64 0, .int .i64 0, .bool false] 43)
  have n1 := NumAt.zero (w.alloc (.cells #[.int .i64 (dd n 0), .int .i64 (dd n 1), .int .i64 (dd n 2), .int .i64 (dd n 3), .int .i64 (dd n 4), .int .i64 (dd n 5), .int .i64 (dd n 6), .int .i64 (dd n 7), .bool o] 43)) 43
  simp only [World.size_alloc] at n1
  go_enter Try.func35, Try.ntmps35
  go_wp2
  go_loopw [4, 5] (fun rv iv w' => ∃ z : Int, ∃ k r m : Nat, rv = .int .i64 (r : Int) ∧ iv = .int .i64 z ∧ z = (k : Int) - 1 ∧ k ≤ 8 ∧ r < 10 ∧ m < 340282366920938463463374607431768211456 ∧ Hid (r = n / 65536 ^ k % 10) ∧ Hid (∀ j, j < 8 → (j < k → dd m j = dd n j) ∧ (k ≤ j → dd m j = dd (n / 10) j)) ∧ Gr w w' ∧ NumAt w' w.heap.size m o ∧ NumAt w' (w.heap.size + 1) 0 false) (fun _ iv _ => (intOf iv + 1).toNat)
  case atStart =>
    refine ⟨7, 8, 0, n, rfl, rfl, by omega, by omega, by omega, hn, ?_, fun j hj => ⟨fun _ => rfl, fun h => by omega⟩, ((Gr.refl _).alloc _ _).alloc _ _, n0, n1⟩
    show 0 = n / 65536 ^ 8 % 10
    rw [Nat.div_eq_of_lt hn]
  case round =>
    clear n0 n1
    obtain ⟨z, k, r, m, rfl, rfl, hz, hk, hr, hm, HR, HD, hG, hN, hO⟩ := hrel
    cases k with
    | zero =>
      have hz' : z < 0 := by omega
      obtain ⟨r0, r1, r2, r3, r4, r5, r6, r7, r8⟩ := hO.cells
      obtain ⟨f0, f1, f2, f3, f4, f5, f6, f7, f8⟩ := hO.open9
      obtain ⟨c0, c1, c2, c3, c4, c5, c6, c7, c8⟩ := hN.cells
      have E : Hid (Nm (n / 10) o = Nm m o ∧ ((n % 10 : Nat) : Int) = (r : Int)) := by
        have h := HD.out
        have h2 := HR.out
        rw [Nat.pow_zero, Nat.div_one] at h2
        refine ⟨?_, by rw [h2]⟩
        rw [Nm, Nm, (h 0 (by omega)).2 (by omega), (h 1 (by omega)).2 (by omega), (h 2 (by omega)).2 (by omega), (h 3 (by omega)).2 (by omega), (h 4 (by omega)).2 (by omega), (h 5 (by omega)).2 (by omega), (h 6 (by omega)).2 (by omega), (h 7 (by omega)).2 (by omega)]
      clear hz HR HD hN hO
      go_wp2
      refine bodyPost_ret (v := .tuple #[Nm m o, .int .i64 (r : Int)]) (by simp [results, Try.results35, go_sem, r0, r1, r2, r3, r4, r5, r6, r7, r8]) rfl ⟨by rw [E.out.1, E.out.2], hG.store9 (by omega) _ _ _ _ _ _ _ _ _⟩
    | succ t =>
      have hzt : z = (t : Int) := by omega
      subst hzt
      obtain ⟨e, he, he1, he2⟩ := dd_nat n t
      have hcell := hN.d t (by omega)
      rw [(HD.out t (by omega)).1 (by omega), he] at hcell
      have hfr := hN.f t (by omega)
      have hst := tenth_step n t e r he2 HR.out
      have hx : (r * 65536 + e) / 10 < 65536 := by omega
      obtain ⟨s1, s2, s3, _⟩ := setD_spec m t ((r * 65536 + e) / 10) hm (by omega) hx
      have HR' : Hid ((r * 65536 + e) % 10 = n / 65536 ^ t % 10) := hst.2
      have HD' : Hid (∀ j, j < 8 → (j < t → dd (setD m t ((r * 65536 + e) / 10)) j = dd n j) ∧ (t ≤ j → dd (setD m t ((r * 65536 + e) / 10)) j = dd (n / 10) j)) := by
        intro j hj
        refine ⟨fun h => ?_, fun h => ?_⟩
        · rw [s2 j hj (by omega)]; exact (HD.out j hj).1 (by omega)
        · by_cases hjt : j = t
          · subst hjt; rw [s1, hst.1]; rfl
          · rw [s2 j hj hjt]; exact (HD.out j hj).2 (by omega)
      have S1 : Hid (dd (setD m t ((r * 65536 + e) / 10)) t = (((r * 65536 + e) / 10 : Nat) : Int)) := s1
      have S2 : Hid (∀ j, j < 8 → j ≠ t → dd (setD m t ((r * 65536 + e) / 10)) j = dd m j) := s2
      clear hst s1 s2 he he2 HR HD hz
      go_wp2
      refine ⟨⟨(t : Int) - 1, t, (r * 65536 + e) % 10, setD m t ((r * 65536 + e) / 10), by go_num, by go_num, rfl, by omega, by omega, s3, HR', HD', hG.setCell (by simp) _, ?_, hO.far _ _ (by omega) _⟩, by simp [intOf]⟩
      exact hN.setDigit t (by omega) _ (S1.out.trans (by omega)) S2.out

end Go.Proofs.Ytlckjohmllagoaa
