import Derived.Test.YtbnljabeccebiaaGreatKn0
/- The reference's numbers of eight digits in memory; Of, as a contract. -/
namespace Go.Proofs.YtbnljabeccebiaaGreat
open Go.RowKit

/-- Digit number i to the base of 65536. -/
def dd (n i : Nat) : Int := ((n / 65536 ^ i % 65536 : Nat) : Int)
/-- A number of eight digits as the reference's struct. -/
abbrev Nm (n : Nat) (o : Bool) : Value := .agg #[.int .i64 (dd n 0), .int .i64 (dd n 1), .int .i64 (dd n 2), .int .i64 (dd n 3), .int .i64 (dd n 4), .int .i64 (dd n 5), .int .i64 (dd n 6), .int .i64 (dd n 7), .bool o]
theorem dd_bd (n i : Nat) : 0 ≤ dd n i ∧ dd n i < 65536 := by unfold dd; omega
theorem dd_lo (n : Nat) : dd n 0 = lo n % 65536 ∧ dd n 1 = lo n / 65536 % 65536 ∧ dd n 2 = lo n / 65536 / 65536 % 65536 ∧ dd n 3 = lo n / 65536 / 65536 / 65536 % 65536 := by
  unfold dd lo; simp only [Nat.reducePow]; omega
theorem dd_hi (n : Nat) : dd n 4 = hi n % 65536 ∧ dd n 5 = hi n / 65536 % 65536 ∧ dd n 6 = hi n / 65536 / 65536 % 65536 ∧ dd n 7 = hi n / 65536 / 65536 / 65536 % 65536 := by
  unfold dd hi; simp only [Nat.reducePow]; omega

set_option maxHeartbeats 1000000 in
theorem of_c (h l : Int) (h0 : 0 ≤ h) (h1 : h < 18446744073709551616) (l0 : 0 ≤ l) (l1 : l < 18446744073709551616) (w : World) :
    Calls Tryz.prog 178 #[.agg #[.int .u64 h, .int .u64 l]] w fun e w' =>
      e = .returned (.agg #[.int .i64 (l % 65536), .int .i64 (l / 65536 % 65536), .int .i64 (l / 65536 / 65536 % 65536), .int .i64 (l / 65536 / 65536 / 65536 % 65536), .int .i64 (h % 65536), .int .i64 (h / 65536 % 65536), .int .i64 (h / 65536 / 65536 % 65536), .int .i64 (h / 65536 / 65536 / 65536 % 65536), .bool false]) ∧ Gr w w' := by
  go_enter Tryz.func178, Tryz.ntmps178
  go_wp2
  go_rounds 5
  exact bodyPost_ret (v := .agg #[.int .i64 (l % 65536), .int .i64 (l / 65536 % 65536), .int .i64 (l / 65536 / 65536 % 65536), .int .i64 (l / 65536 / 65536 / 65536 % 65536), .int .i64 (h % 65536), .int .i64 (h / 65536 % 65536), .int .i64 (h / 65536 / 65536 % 65536), .int .i64 (h / 65536 / 65536 / 65536 % 65536), .bool false]) (by simp [results, Tryz.results178, go_sem]) rfl
    ⟨rfl, (((Gr.refl _).alloc _ _).alloc _ _).alloc _ _⟩
theorem of_any (n : Nat) (hn : n < 340282366920938463463374607431768211456) (w : World) :
    Calls Tryz.prog 178 #[Wd n] w fun e w' => e = .returned (Nm n false) ∧ Gr w w' := by
  obtain ⟨a0, a1, a2, a3⟩ := dd_lo n
  obtain ⟨b0, b1, b2, b3⟩ := dd_hi n
  rw [Nm, a0, a1, a2, a3, b0, b1, b2, b3]
  exact of_c (hi n) (lo n) (hi_bd hn).1 (hi_bd hn).2 (lo_bd n).1 (lo_bd n).2 w

/-- Block B holds the number n and the mark o. -/
structure NumAt (w : World) (B n : Nat) (o : Bool) : Prop where
  d : ∀ j, j < 8 → w.cell? ⟨B, j, none⟩ = some (.int .i64 (dd n j))
  o : w.cell? ⟨B, 8, none⟩ = some (.bool o)
  f : ∀ j, j < 9 → w.frozen? ⟨B, j, none⟩ = false
theorem NumAt.call {w w' : World} {B n : Nat} {o : Bool} (h : NumAt w B n o) (g : Gr w w') : NumAt w' B n o :=
  ⟨fun j hj => g.keeps (h.d j hj), g.keeps h.o, fun j hj => (g.froz _).trans (h.f j hj)⟩
theorem NumAt.far {w : World} {B n : Nat} {o : Bool} (h : NumAt w B n o) (b k : Nat) (hb : b ≠ B) (x : Value) : NumAt (w.setCell ⟨b, k, none⟩ x) B n o :=
  ⟨fun j hj => (World.cell?_setCell_far w _ _ x hb).trans (h.d j hj), (World.cell?_setCell_far w _ _ x hb).trans h.o, fun j hj => (World.frozen?_setCell _ _ _ _).trans (h.f j hj)⟩
theorem NumAt.setOver {w : World} {B n : Nat} {o : Bool} (h : NumAt w B n o) (o' : Bool) : NumAt (w.setCell ⟨B, 8, none⟩ (.bool o')) B n o' :=
  ⟨fun j hj => (World.cell?_setCell_other w _ _ _ (by intro e; injection e; omega)).trans (h.d j hj), World.cell?_setCell_same _ _ _ h.o, fun j hj => (World.frozen?_setCell _ _ _ _).trans (h.f j hj)⟩
theorem NumAt.setDigit {w : World} {B n m : Nat} {o : Bool} (h : NumAt w B n o) (i : Nat) (hi : i < 8) (x : Int) (hx : dd m i = x) (hm : ∀ j, j < 8 → j ≠ i → dd m j = dd n j) : NumAt (w.setCell ⟨B, i, none⟩ (.int .i64 x)) B m o := by
  refine ⟨fun j hj => ?_, (World.cell?_setCell_other w _ _ _ (by intro e; injection e; omega)).trans h.o, fun j hj => (World.frozen?_setCell _ _ _ _).trans (h.f j hj)⟩
  by_cases e : j = i
  · subst e; rw [hx]; exact World.cell?_setCell_same _ _ _ (h.d j hj)
  · rw [hm j hj e]; exact (World.cell?_setCell_other w _ _ _ (by intro e2; injection e2; omega)).trans (h.d j hj)
theorem NumAt.cells {w : World} {B n : Nat} {o : Bool} (h : NumAt w B n o) :
    w.cell? ⟨B, 0, none⟩ = some (.int .i64 (dd n 0)) ∧ w.cell? ⟨B, 1, none⟩ = some (.int .i64 (dd n 1)) ∧ w.cell? ⟨B, 2, none⟩ = some (.int .i64 (dd n 2)) ∧ w.cell? ⟨B, 3, none⟩ = some (.int .i64 (dd n 3)) ∧
    w.cell? ⟨B, 4, none⟩ = some (.int .i64 (dd n 4)) ∧ w.cell? ⟨B, 5, none⟩ = some (.int .i64 (dd n 5)) ∧ w.cell? ⟨B, 6, none⟩ = some (.int .i64 (dd n 6)) ∧ w.cell? ⟨B, 7, none⟩ = some (.int .i64 (dd n 7)) ∧ w.cell? ⟨B, 8, none⟩ = some (.bool o) :=
  ⟨h.d 0 (by omega), h.d 1 (by omega), h.d 2 (by omega), h.d 3 (by omega), h.d 4 (by omega), h.d 5 (by omega), h.d 6 (by omega), h.d 7 (by omega), h.o⟩
theorem NumAt.open9 {w : World} {B n : Nat} {o : Bool} (h : NumAt w B n o) :
    w.frozen? ⟨B, 0, none⟩ = false ∧ w.frozen? ⟨B, 1, none⟩ = false ∧ w.frozen? ⟨B, 2, none⟩ = false ∧ w.frozen? ⟨B, 3, none⟩ = false ∧ w.frozen? ⟨B, 4, none⟩ = false ∧ w.frozen? ⟨B, 5, none⟩ = false ∧ w.frozen? ⟨B, 6, none⟩ = false ∧ w.frozen? ⟨B, 7, none⟩ = false ∧ w.frozen? ⟨B, 8, none⟩ = false :=
  ⟨h.f 0 (by omega), h.f 1 (by omega), h.f 2 (by omega), h.f 3 (by omega), h.f 4 (by omega), h.f 5 (by omega), h.f 6 (by omega), h.f 7 (by omega), h.f 8 (by omega)⟩
/-- A new block that is made of a number. -/
theorem NumAt.new (w : World) (n : Nat) (o : Bool) (t : TypeId) : NumAt (w.alloc (.cells #[.int .i64 (dd n 0), .int .i64 (dd n 1), .int .i64 (dd n 2), .int .i64 (dd n 3), .int .i64 (dd n 4), .int .i64 (dd n 5), .int .i64 (dd n 6), .int .i64 (dd n 7), .bool o] t)) w.heap.size n o := by
  refine ⟨fun j hj => ?_, by simp [go_sem], fun j _ => by simp [go_sem]⟩
  rw [World.cell?_alloc_at _ _ _ _ rfl]
  have : j = 0 ∨ j = 1 ∨ j = 2 ∨ j = 3 ∨ j = 4 ∨ j = 5 ∨ j = 6 ∨ j = 7 := by omega
  rcases this with rfl | rfl | rfl | rfl | rfl | rfl | rfl | rfl <;> rfl
/-- A number that is stored over another one. -/
theorem NumAt.store {w : World} {B n : Nat} {o : Bool} (h : NumAt w B n o) (m : Nat) (p : Bool) :
    NumAt (((((((((w.setCell ⟨B, 0, none⟩ (.int .i64 (dd m 0))).setCell ⟨B, 1, none⟩ (.int .i64 (dd m 1))).setCell ⟨B, 2, none⟩ (.int .i64 (dd m 2))).setCell ⟨B, 3, none⟩ (.int .i64 (dd m 3))).setCell ⟨B, 4, none⟩ (.int .i64 (dd m 4))).setCell ⟨B, 5, none⟩ (.int .i64 (dd m 5))).setCell ⟨B, 6, none⟩ (.int .i64 (dd m 6))).setCell ⟨B, 7, none⟩ (.int .i64 (dd m 7))).setCell ⟨B, 8, none⟩ (.bool p)) B m p := by
  obtain ⟨c0, c1, c2, c3, c4, c5, c6, c7, c8⟩ := h.cells
  refine ⟨fun j hj => ?_, by simp [go_sem, c8], fun j hj => ?_⟩
  · have : j = 0 ∨ j = 1 ∨ j = 2 ∨ j = 3 ∨ j = 4 ∨ j = 5 ∨ j = 6 ∨ j = 7 := by omega
    rcases this with rfl | rfl | rfl | rfl | rfl | rfl | rfl | rfl <;> simp [go_sem, *]
  · simp only [World.frozen?_setCell]; exact h.f j hj

/-- Digit i of a number changed for x. -/
def setD (n i x : Nat) : Nat := n + x * 65536 ^ i - n / 65536 ^ i % 65536 * 65536 ^ i
theorem setD_spec (n i x : Nat) (hn : n < 340282366920938463463374607431768211456) (hi : i < 8) (hx : x < 65536) :
    dd (setD n i x) i = (x : Int) ∧ (∀ j, j < 8 → j ≠ i → dd (setD n i x) j = dd n j) ∧ setD n i x < 340282366920938463463374607431768211456 ∧ setD n i x + n / 65536 ^ i % 65536 * 65536 ^ i = n + x * 65536 ^ i := by
  have hc : i = 0 ∨ i = 1 ∨ i = 2 ∨ i = 3 ∨ i = 4 ∨ i = 5 ∨ i = 6 ∨ i = 7 := by omega
  rcases hc with rfl | rfl | rfl | rfl | rfl | rfl | rfl | rfl
  all_goals
    unfold dd setD
    simp only [Nat.reducePow]
    refine ⟨by omega, fun j hj hne => ?_, by omega, by omega⟩
    have hj2 : j = 0 ∨ j = 1 ∨ j = 2 ∨ j = 3 ∨ j = 4 ∨ j = 5 ∨ j = 6 ∨ j = 7 := by omega
    rcases hj2 with rfl | rfl | rfl | rfl | rfl | rfl | rfl | rfl
    all_goals first | (exfalso; omega) | (simp only [Nat.reducePow]; omega)

end Go.Proofs.YtbnljabeccebiaaGreat

/- The reference's plus, as a contract. -/
namespace Go.Proofs.YtbnljabeccebiaaGreat
open Go.RowKit

theorem Gr.store9 {a w : World} (h : Gr a w) {B : Nat} (hB : a.heap.size ≤ B) (x0 x1 x2 x3 x4 x5 x6 x7 x8 : Value) :
    Gr a ((((((((((w.setCell ⟨B, 0, none⟩ x0).setCell ⟨B, 1, none⟩ x1).setCell ⟨B, 2, none⟩ x2).setCell ⟨B, 3, none⟩ x3).setCell ⟨B, 4, none⟩ x4).setCell ⟨B, 5, none⟩ x5).setCell ⟨B, 6, none⟩ x6).setCell ⟨B, 7, none⟩ x7).setCell ⟨B, 8, none⟩ x8)) :=
  (((((((((h.setCell (p := ⟨B, 0, none⟩) hB x0).setCell (p := ⟨B, 1, none⟩) hB x1).setCell (p := ⟨B, 2, none⟩) hB x2).setCell (p := ⟨B, 3, none⟩) hB x3).setCell (p := ⟨B, 4, none⟩) hB x4).setCell (p := ⟨B, 5, none⟩) hB x5).setCell (p := ⟨B, 6, none⟩) hB x6).setCell (p := ⟨B, 7, none⟩) hB x7).setCell (p := ⟨B, 8, none⟩) hB x8)
theorem dd_nat (m k : Nat) : ∃ e : Nat, dd m k = (e : Int) ∧ e < 65536 ∧ e = m / 65536 ^ k % 65536 := ⟨_, rfl, Nat.mod_lt _ (by omega), rfl⟩
theorem pow_past (k : Nat) (h : 8 ≤ k) (c m : Nat) (hm : m < 340282366920938463463374607431768211456) (hc : 0 < c) :
    (m + c * 65536 ^ k) % 340282366920938463463374607431768211456 = m ∧ 340282366920938463463374607431768211456 ≤ m + c * 65536 ^ k := by
  obtain ⟨j, rfl⟩ : ∃ j, k = 8 + j := ⟨k - 8, by omega⟩
  have e : c * 65536 ^ (8 + j) = 340282366920938463463374607431768211456 * (c * 65536 ^ j) := by
    rw [Nat.pow_add, show (65536 : Nat) ^ 8 = 340282366920938463463374607431768211456 by decide, Nat.mul_left_comm]
  have hp : 0 < c * 65536 ^ j := Nat.mul_pos hc (Nat.pow_pos (by omega))
  rw [e]
  refine ⟨by rw [Nat.add_mul_mod_self_left]; exact Nat.mod_eq_of_lt hm, ?_⟩
  have : 340282366920938463463374607431768211456 * 1 ≤ 340282366920938463463374607431768211456 * (c * 65536 ^ j) := Nat.mul_le_mul_left _ hp
  omega

/-- What one round makes of the number. -/
theorem plus_round (m c k : Nat) (hm : m < 340282366920938463463374607431768211456) (hk : k < 8) :
    setD m k ((c + m / 65536 ^ k % 65536) % 65536) + (c + m / 65536 ^ k % 65536) / 65536 * 65536 ^ (k + 1) = m + c * 65536 ^ k := by
  obtain ⟨_, _, _, h⟩ := setD_spec m k ((c + m / 65536 ^ k % 65536) % 65536) hm hk (Nat.mod_lt _ (by omega))
  generalize m / 65536 ^ k % 65536 = e at *
  have h2 : (c + e) / 65536 * 65536 ^ (k + 1) + (c + e) % 65536 * 65536 ^ k = (c + e) * 65536 ^ k := by
    rw [Nat.pow_succ, ← Nat.mul_assoc, Nat.mul_right_comm, ← Nat.add_mul]
    congr 1; omega
  rw [Nat.add_mul] at h2
  omega

set_option maxHeartbeats 4000000 in
theorem plus_any (n : Nat) (hn : n < 340282366920938463463374607431768211456) (o : Bool) (at' v : Nat) (hat : at' ≤ 14) (hv : v < 8589934592) (w : World) :
    Calls Tryz.prog 212 #[Nm n o, .int .i64 (at' : Int), .int .i64 (v : Int)] w fun e w' =>
      e = .returned (Nm ((n + v * 65536 ^ at') % 340282366920938463463374607431768211456) (o || decide (340282366920938463463374607431768211456 ≤ n + v * 65536 ^ at'))) ∧ Gr w w' := by
  go_enter Tryz.func212, Tryz.ntmps212
  go_wp2
  go_loopw [2, 7] (fun vv iv w' => ∃ m c k : Nat, vv = .int .i64 (c : Int) ∧ iv = .int .i64 (k : Int) ∧ k ≤ 15 ∧ m < 340282366920938463463374607431768211456 ∧ c < 8589934592 ∧ Hid (m + c * 65536 ^ k = n + v * 65536 ^ at') ∧ Gr w w' ∧ NumAt w' w.heap.size m o ∧ NumAt w' (w.heap.size + 1) 0 false) (fun _ iv _ => 16 - (intOf iv).toNat)
  case atStart =>
    refine ⟨n, v, at', rfl, rfl, by omega, hn, hv, rfl, ((Gr.refl _).alloc _ _).alloc _ _, (NumAt.new w n o 221).call ((Gr.refl _).alloc _ _), ?_⟩
    have := NumAt.new (w.alloc (.cells #[.int .i64 (dd n 0), .int .i64 (dd n 1), .int .i64 (dd n 2), .int .i64 (dd n 3), .int .i64 (dd n 4), .int .i64 (dd n 5), .int .i64 (dd n 6), .int .i64 (dd n 7), .bool o] 221)) 0 false 221
    rw [World.size_alloc] at this
    exact this
  case round =>
    obtain ⟨m, c, k, rfl, rfl, hk, hm, hc, X, hG, hN, hR⟩ := hrel
    obtain ⟨r0, r1, r2, r3, r4, r5, r6, r7, r8⟩ := hR.cells
    obtain ⟨f0, f1, f2, f3, f4, f5, f6, f7, f8⟩ := hR.open9
    by_cases hc0 : c = 0
    · subst hc0
      obtain ⟨c0, c1, c2, c3, c4, c5, c6, c7, c8⟩ := hN.cells
      have E : Hid (m = (n + v * 65536 ^ at') % 340282366920938463463374607431768211456 ∧ o = (o || decide (340282366920938463463374607431768211456 ≤ n + v * 65536 ^ at'))) := by
        have := X.out
        rw [Nat.zero_mul, Nat.add_zero] at this
        rw [← this]
        exact ⟨(Nat.mod_eq_of_lt hm).symm, by rw [decide_eq_false (by omega)]; simp⟩
      clear X hN hR
      go_wp2
      refine bodyPost_ret (v := Nm m o) (by simp [results, Tryz.results212, go_sem, r0, r1, r2, r3, r4, r5, r6, r7, r8]) rfl ⟨by rw [← E.out.1, ← E.out.2], ?_⟩
      exact hG.store9 (by omega) _ _ _ _ _ _ _ _ _
    · by_cases hk8 : k < 8
      · obtain ⟨e, he, he1, he2⟩ := dd_nat m k
        have hcell := hN.d k hk8
        rw [he] at hcell
        have hfr := hN.f k (by omega)
        obtain ⟨s1, s2, s3, _⟩ := setD_spec m k ((c + e) % 65536) hm hk8 (by omega)
        have hpr := plus_round m c k hm hk8
        rw [← he2] at hpr
        have P : Hid (setD m k ((c + e) % 65536) + (c + e) / 65536 * 65536 ^ (k + 1) = m + c * 65536 ^ k) := hpr
        have S1 : Hid (dd (setD m k ((c + e) % 65536)) k = (((c + e) % 65536 : Nat) : Int)) := s1
        have S2 : Hid (∀ j, j < 8 → j ≠ k → dd (setD m k ((c + e) % 65536)) j = dd m j) := s2
        clear he he2 hpr s1 s2 r0 r1 r2 r3 r4 r5 r6 r7 r8 f0 f1 f2 f3 f4 f5 f6 f7 f8
        go_wp2
        refine ⟨⟨setD m k ((c + e) % 65536), (c + e) / 65536, k + 1, by go_num, by go_num, by omega, s3, by omega, P.out.trans X.out, hG.setCell (by simp) _, ?_, hR.far _ _ (by omega) _⟩, by simp [intOf]; omega⟩
        exact hN.setDigit k hk8 _ (S1.out.trans (by omega)) S2.out
      · obtain ⟨c0, c1, c2, c3, c4, c5, c6, c7, c8⟩ := hN.cells
        have f9 := hN.f 8 (by omega)
        have E : Hid (m = (n + v * 65536 ^ at') % 340282366920938463463374607431768211456 ∧ true = (o || decide (340282366920938463463374607431768211456 ≤ n + v * 65536 ^ at'))) := by
          obtain ⟨p1, p2⟩ := pow_past k (by omega) c m hm (by omega)
          have := X.out
          rw [← this]
          exact ⟨p1.symm, by rw [decide_eq_true p2]; simp⟩
        clear X hN hR
        go_wp2
        refine bodyPost_ret (v := Nm m true) (by simp [results, Tryz.results212, go_sem, r0, r1, r2, r3, r4, r5, r6, r7, r8]) rfl ⟨by rw [← E.out.1, ← E.out.2], ?_⟩
        exact (hG.setCell (by simp) _).store9 (by omega) _ _ _ _ _ _ _ _ _

end Go.Proofs.YtbnljabeccebiaaGreat
