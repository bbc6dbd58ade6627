import Derived.Test.YtbnljabeccebiabGreatKs0
import Derived.BigQuiet
import Derived.Deep.RegionWith
/- The reference's numbers of eight digits in memory; Of, as a contract. -/
namespace Go.Proofs.YtbnljabeccebiabGreat
open Go.RowKit

/-- Digit number i to the base of 65536. -/
def dd (n i : Nat) : Int := ((n / 65536 ^ i % 65536 : Nat) : Int)
/-- A number of eight digits as the reference's struct. -/
abbrev Nm (n : Nat) (o : Bool) : Value := .agg #[.int .i64 (dd n 0), .int .i64 (dd n 1), .int .i64 (dd n 2), .int .i64 (dd n 3), .int .i64 (dd n 4), .int .i64 (dd n 5), .int .i64 (dd n 6), .int .i64 (dd n 7), .bool o]
theorem dd_bd (n i : Nat) : 0 ≤ dd n i ∧ dd n i < 65536 := by unfold dd; omega
theorem dd_lo (n : Nat) : dd n 0 = lo n % 65536 ∧ dd n 1 = lo n / 65536 % 65536 ∧ dd n 2 = lo n / 65536 / 65536 % 65536 ∧ dd n 3 = lo n / 65536 / 65536 / 65536 % 65536 := by
  unfold dd lo; simp only [Nat.reducePow]; omega
theorem dd_hi (n : Nat) : dd n 4 = hi n % 65536 ∧ dd n 5 = hi n / 65536 % 65536 ∧ dd n 6 = hi n / 65536 / 65536 % 65536 ∧ dd n 7 = hi n / 65536 / 65536 / 65536 % 65536 := by
  unfold dd hi; simp only [Nat.reducePow]; omega

set_option maxHeartbeats 1000000 in
theorem of_c (h l : Int) (h0 : 0 ≤ h) (h1 : h < 18446744073709551616) (l0 : 0 ≤ l) (l1 : l < 18446744073709551616) (w : World) :
    Calls Tryz.prog 51 #[.agg #[.int .u64 h, .int .u64 l]] w fun e w' =>
      e = .returned (.agg #[.int .i64 (l % 65536), .int .i64 (l / 65536 % 65536), .int .i64 (l / 65536 / 65536 % 65536), .int .i64 (l / 65536 / 65536 / 65536 % 65536), .int .i64 (h % 65536), .int .i64 (h / 65536 % 65536), .int .i64 (h / 65536 / 65536 % 65536), .int .i64 (h / 65536 / 65536 / 65536 % 65536), .bool false]) ∧ Gr w w' := by
  go_enter Tryz.func51, Tryz.ntmps51
  go_wp2
  go_rounds 5
  exact bodyPost_ret (v := .agg #[.int .i64 (l % 65536), .int .i64 (l / 65536 % 65536), .int .i64 (l / 65536 / 65536 % 65536), .int .i64 (l / 65536 / 65536 / 65536 % 65536), .int .i64 (h % 65536), .int .i64 (h / 65536 % 65536), .int .i64 (h / 65536 / 65536 % 65536), .int .i64 (h / 65536 / 65536 / 65536 % 65536), .bool false]) (by simp [results, Tryz.results51, go_sem]) rfl
    ⟨rfl, (((Gr.refl _).alloc _ _).alloc _ _).alloc _ _⟩
theorem of_any (n : Nat) (hn : n < 340282366920938463463374607431768211456) (w : World) :
    Calls Tryz.prog 51 #[Wd n] w fun e w' => e = .returned (Nm n false) ∧ Gr w w' := by
  obtain ⟨a0, a1, a2, a3⟩ := dd_lo n
  obtain ⟨b0, b1, b2, b3⟩ := dd_hi n
  rw [Nm, a0, a1, a2, a3, b0, b1, b2, b3]
  exact of_c (hi n) (lo n) (hi_bd hn).1 (hi_bd hn).2 (lo_bd n).1 (lo_bd n).2 w

/-- Block B holds the number n and the mark o. -/
structure NumAt (w : World) (B n : Nat) (o : Bool) : Prop where
  d : ∀ j, j < 8 → w.cell? ⟨B, j, none⟩ = some (.int .i64 (dd n j))
  o : w.cell? ⟨B, 8, none⟩ = some (.bool o)
  f : ∀ j, j < 9 → w.frozen? ⟨B, j, none⟩ = false
theorem NumAt.call {w w' : World} {B n : Nat} {o : Bool} (h : NumAt w B n o) (g : Gr w w') : NumAt w' B n o :=
  ⟨fun j hj => g.keeps (h.d j hj), g.keeps h.o, fun j hj => (g.froz _).trans (h.f j hj)⟩
theorem NumAt.far {w : World} {B n : Nat} {o : Bool} (h : NumAt w B n o) (b k : Nat) (hb : b ≠ B) (x : Value) : NumAt (w.setCell ⟨b, k, none⟩ x) B n o :=
  ⟨fun j hj => (World.cell?_setCell_far w _ _ x hb).trans (h.d j hj), (World.cell?_setCell_far w _ _ x hb).trans h.o, fun j hj => (World.frozen?_setCell _ _ _ _).trans (h.f j hj)⟩
theorem NumAt.setOver {w : World} {B n : Nat} {o : Bool} (h : NumAt w B n o) (o' : Bool) : NumAt (w.setCell ⟨B, 8, none⟩ (.bool o')) B n o' :=
  ⟨fun j hj => (World.cell?_setCell_other w _ _ _ (by intro e; injection e; omega)).trans (h.d j hj), World.cell?_setCell_same _ _ _ h.o, fun j hj => (World.frozen?_setCell _ _ _ _).trans (h.f j hj)⟩
theorem NumAt.setDigit {w : World} {B n m : Nat} {o : Bool} (h : NumAt w B n o) (i : Nat) (hi : i < 8) (x : Int) (hx : dd m i = x) (hm : ∀ j, j < 8 → j ≠ i → dd m j = dd n j) : NumAt (w.setCell ⟨B, i, none⟩ (.int .i64 x)) B m o := by
  refine ⟨fun j hj => ?_, (World.cell?_setCell_other w _ _ _ (by intro e; injection e; omega)).trans h.o, fun j hj => (World.frozen?_setCell _ _ _ _).trans (h.f j hj)⟩
  by_cases e : j = i
  · subst e; rw [hx]; exact World.cell?_setCell_same _ _ _ (h.d j hj)
  · rw [hm j hj e]; exact (World.cell?_setCell_other w _ _ _ (by intro e2; injection e2; omega)).trans (h.d j hj)
theorem NumAt.cells {w : World} {B n : Nat} {o : Bool} (h : NumAt w B n o) :
    w.cell? ⟨B, 0, none⟩ = some (.int .i64 (dd n 0)) ∧ w.cell? ⟨B, 1, none⟩ = some (.int .i64 (dd n 1)) ∧ w.cell? ⟨B, 2, none⟩ = some (.int .i64 (dd n 2)) ∧ w.cell? ⟨B, 3, none⟩ = some (.int .i64 (dd n 3)) ∧
    w.cell? ⟨B, 4, none⟩ = some (.int .i64 (dd n 4)) ∧ w.cell? ⟨B, 5, none⟩ = some (.int .i64 (dd n 5)) ∧ w.cell? ⟨B, 6, none⟩ = some (.int .i64 (dd n 6)) ∧ w.cell? ⟨B, 7, none⟩ = some (.int .i64 (dd n 7)) ∧ w.cell? ⟨B, 8, none⟩ = some (.bool o) :=
  ⟨h.d 0 (by omega), h.d 1 (by omega), h.d 2 (by omega), h.d 3 (by omega), h.d 4 (by omega), h.d 5 (by omega), h.d 6 (by omega), h.d 7 (by omega), h.o⟩
theorem NumAt.open9 {w : World} {B n : Nat} {o : Bool} (h : NumAt w B n o) :
    w.frozen? ⟨B, 0, none⟩ = false ∧ w.frozen? ⟨B, 1, none⟩ = false ∧ w.frozen? ⟨B, 2, none⟩ = false ∧ w.frozen? ⟨B, 3, none⟩ = false ∧ w.frozen? ⟨B, 4, none⟩ = false ∧ w.frozen? ⟨B, 5, none⟩ = false ∧ w.frozen? ⟨B, 6, none⟩ = false ∧ w.frozen? ⟨B, 7, none⟩ = false ∧ w.frozen? ⟨B, 8, none⟩ = false :=
  ⟨h.f 0 (by omega), h.f 1 (by omega), h.f 2 (by omega), h.f 3 (by omega), h.f 4 (by omega), h.f 5 (by omega), h.f 6 (by omega), h.f 7 (by omega), h.f 8 (by omega)⟩
/-- A new block that is made of a number. -/
theorem NumAt.new (w : World) (n : Nat) (o : Bool) (t : TypeId) : NumAt (w.alloc (.cells #[.int .i64 (dd n 0), .int .i64 (dd n 1), .int .i64 (dd n 2), .int .i64 (dd n 3), .int .i64 (dd n 4), .int .i64 (dd n 5), .int .i64 (dd n 6), .int .i64 (dd n 7), .bool o] t)) w.heap.size n o := by
  refine ⟨fun j hj => ?_, by simp [go_sem], fun j _ => by simp [go_sem]⟩
  rw [World.cell?_alloc_at _ _ _ _ rfl]
  have : j = 0 ∨ j = 1 ∨ j = 2 ∨ j = 3 ∨ j = 4 ∨ j = 5 ∨ j = 6 ∨ j = 7 := by omega
  rcases this with rfl | rfl | rfl | rfl | rfl | rfl | rfl | rfl <;> rfl
/-- A number that is stored over another one. -/
theorem NumAt.store {w : World} {B n : Nat} {o : Bool} (h : NumAt w B n o) (m : Nat) (p : Bool) :
    NumAt (((((((((w.setCell ⟨B, 0, none⟩ (.int .i64 (dd m 0))).setCell ⟨B, 1, none⟩ (.int .i64 (dd m 1))).setCell ⟨B, 2, none⟩ (.int .i64 (dd m 2))).setCell ⟨B, 3, none⟩ (.int .i64 (dd m 3))).setCell ⟨B, 4, none⟩ (.int .i64 (dd m 4))).setCell ⟨B, 5, none⟩ (.int .i64 (dd m 5))).setCell ⟨B, 6, none⟩ (.int .i64 (dd m 6))).setCell ⟨B, 7, none⟩ (.int .i64 (dd m 7))).setCell ⟨B, 8, none⟩ (.bool p)) B m p := by
  obtain ⟨c0, c1, c2, c3, c4, c5, c6, c7, c8⟩ := h.cells
  refine ⟨fun j hj => ?_, by simp [go_sem, c8], fun j hj => ?_⟩
  · have : j = 0 ∨ j = 1 ∨ j = 2 ∨ j = 3 ∨ j = 4 ∨ j = 5 ∨ j = 6 ∨ j = 7 := by omega
    rcases this with rfl | rfl | rfl | rfl | rfl | rfl | rfl | rfl <;> simp [go_sem, *]
  · simp only [World.frozen?_setCell]; exact h.f j hj

/-- Digit i of a number changed for x. -/
def setD (n i x : Nat) : Nat := n + x * 65536 ^ i - n / 65536 ^ i % 65536 * 65536 ^ i
theorem setD_spec (n i x : Nat) (hn : n < 340282366920938463463374607431768211456) (hi : i < 8) (hx : x < 65536) :
    dd (setD n i x) i = (x : Int) ∧ (∀ j, j < 8 → j ≠ i → dd (setD n i x) j = dd n j) ∧ setD n i x < 340282366920938463463374607431768211456 ∧ setD n i x + n / 65536 ^ i % 65536 * 65536 ^ i = n + x * 65536 ^ i := by
  have hc : i = 0 ∨ i = 1 ∨ i = 2 ∨ i = 3 ∨ i = 4 ∨ i = 5 ∨ i = 6 ∨ i = 7 := by omega
  rcases hc with rfl | rfl | rfl | rfl | rfl | rfl | rfl | rfl
  all_goals
    unfold dd setD
    simp only [Nat.reducePow]
    refine ⟨by omega, fun j hj hne => ?_, by omega, by omega⟩
    have hj2 : j = 0 ∨ j = 1 ∨ j = 2 ∨ j = 3 ∨ j = 4 ∨ j = 5 ∨ j = 6 ∨ j = 7 := by omega
    rcases hj2 with rfl | rfl | rfl | rfl | rfl | rfl | rfl | rfl
    all_goals first | (exfalso; omega) | (simp only [Nat.reducePow]; omega)

end Go.Proofs.YtbnljabeccebiabGreat

/- The reference's plus, as a contract. -/
namespace Go.Proofs.YtbnljabeccebiabGreat
open Go.RowKit

theorem Gr.store9 {a w : World} (h : Gr a w) {B : Nat} (hB : a.heap.size ≤ B) (x0 x1 x2 x3 x4 x5 x6 x7 x8 : Value) :
    Gr a ((((((((((w.setCell ⟨B, 0, none⟩ x0).setCell ⟨B, 1, none⟩ x1).setCell ⟨B, 2, none⟩ x2).setCell ⟨B, 3, none⟩ x3).setCell ⟨B, 4, none⟩ x4).setCell ⟨B, 5, none⟩ x5).setCell ⟨B, 6, none⟩ x6).setCell ⟨B, 7, none⟩ x7).setCell ⟨B, 8, none⟩ x8)) :=
  (((((((((h.setCell (p := ⟨B, 0, none⟩) hB x0).setCell (p := ⟨B, 1, none⟩) hB x1).setCell (p := ⟨B, 2, none⟩) hB x2).setCell (p := ⟨B, 3, none⟩) hB x3).setCell (p := ⟨B, 4, none⟩) hB x4).setCell (p := ⟨B, 5, none⟩) hB x5).setCell (p := ⟨B, 6, none⟩) hB x6).setCell (p := ⟨B, 7, none⟩) hB x7).setCell (p := ⟨B, 8, none⟩) hB x8)
theorem dd_nat (m k : Nat) : ∃ e : Nat, dd m k = (e : Int) ∧ e < 65536 ∧ e = m / 65536 ^ k % 65536 := ⟨_, rfl, Nat.mod_lt _ (by omega), rfl⟩
theorem pow_past (k : Nat) (h : 8 ≤ k) (c m : Nat) (hm : m < 340282366920938463463374607431768211456) (hc : 0 < c) :
    (m + c * 65536 ^ k) % 340282366920938463463374607431768211456 = m ∧ 340282366920938463463374607431768211456 ≤ m + c * 65536 ^ k := by
  obtain ⟨j, rfl⟩ : ∃ j, k = 8 + j := ⟨k - 8, by omega⟩
  have e : c * 65536 ^ (8 + j) = 340282366920938463463374607431768211456 * (c * 65536 ^ j) := by
    rw [Nat.pow_add, show (65536 : Nat) ^ 8 = 340282366920938463463374607431768211456 by decide, Nat.mul_left_comm]
  have hp : 0 < c * 65536 ^ j := Nat.mul_pos hc (Nat.pow_pos (by omega))
  rw [e]
  refine ⟨by rw [Nat.add_mul_mod_self_left]; exact Nat.mod_eq_of_lt hm, ?_⟩
  have : 340282366920938463463374607431768211456 * 1 ≤ 340282366920938463463374607431768211456 * (c * 65536 ^ j) := Nat.mul_le_mul_left _ hp
  omega

/-- What one round makes of the number. -/
theorem plus_round (m c k : Nat) (hm : m < 340282366920938463463374607431768211456) (hk : k < 8) :
    setD m k ((c + m / 65536 ^ k % 65536) % 65536) + (c + m / 65536 ^ k % 65536) / 65536 * 65536 ^ (k + 1) = m + c * 65536 ^ k := by
  obtain ⟨_, _, _, h⟩ := setD_spec m k ((c + m / 65536 ^ k % 65536) % 65536) hm hk (Nat.mod_lt _ (by omega))
  generalize m / 65536 ^ k % 65536 = e at *
  have h2 : (c + e) / 65536 * 65536 ^ (k + 1) + (c + e) % 65536 * 65536 ^ k = (c + e) * 65536 ^ k := by
    rw [Nat.pow_succ, ← Nat.mul_assoc, Nat.mul_right_comm, ← Nat.add_mul]
    congr 1; omega
  rw [Nat.add_mul] at h2
  omega

set_option maxHeartbeats 4000000 in
theorem plus_any (n : Nat) (hn : n < 340282366920938463463374607431768211456) (o : Bool) (at' v : Nat) (hat : at' ≤ 14) (hv : v < 8589934592) (w : World) :
    Calls Tryz.prog 136 #[Nm n o, .int .i64 (at' : Int), .int .i64 (v : Int)] w fun e w' =>
      e = .returned (Nm ((n + v * 65536 ^ at') % 340282366920938463463374607431768211456) (o || decide (340282366920938463463374607431768211456 ≤ n + v * 65536 ^ at'))) ∧ Gr w w' := by
  go_enter Tryz.func136, Tryz.ntmps136
  go_wp2
  go_loopw [2, 7] (fun vv iv w' => ∃ m c k : Nat, vv = .int .i64 (c : Int) ∧ iv = .int .i64 (k : Int) ∧ k ≤ 15 ∧ m < 340282366920938463463374607431768211456 ∧ c < 8589934592 ∧ Hid (m + c * 65536 ^ k = n + v * 65536 ^ at') ∧ Gr w w' ∧ NumAt w' w.heap.size m o ∧ NumAt w' (w.heap.size + 1) 0 false) (fun _ iv _ => 16 - (intOf iv).toNat)
  case atStart =>
    refine ⟨n, v, at', rfl, rfl, by omega, hn, hv, rfl, ((Gr.refl _).alloc _ _).alloc _ _, (NumAt.new w n o 115).call ((Gr.refl _).alloc _ _), ?_⟩
    have := NumAt.new (w.alloc (.cells #[.int .i64 (dd n 0), .int .i64 (dd n 1), .int .i64 (dd n 2), .int .i64 (dd n 3), .int .i64 (dd n 4), .int .i64 (dd n 5), .int .i64 (dd n 6), .int .i64 (dd n 7), .bool o] 115)) 0 false 115
    rw [World.size_alloc] at this
    exact this
  case round =>
    obtain ⟨m, c, k, rfl, rfl, hk, hm, hc, X, hG, hN, hR⟩ := hrel
    obtain ⟨r0, r1, r2, r3, r4, r5, r6, r7, r8⟩ := hR.cells
    obtain ⟨f0, f1, f2, f3, f4, f5, f6, f7, f8⟩ := hR.open9
    by_cases hc0 : c = 0
    · subst hc0
      obtain ⟨c0, c1, c2, c3, c4, c5, c6, c7, c8⟩ := hN.cells
      have E : Hid (m = (n + v * 65536 ^ at') % 340282366920938463463374607431768211456 ∧ o = (o || decide (340282366920938463463374607431768211456 ≤ n + v * 65536 ^ at'))) := by
        have := X.out
        rw [Nat.zero_mul, Nat.add_zero] at this
        rw [← this]
        exact ⟨(Nat.mod_eq_of_lt hm).symm, by rw [decide_eq_false (by omega)]; simp⟩
      clear X hN hR
      go_wp2
      refine bodyPost_ret (v := Nm m o) (by simp [results, Tryz.results136, go_sem, r0, r1, r2, r3, r4, r5, r6, r7, r8]) rfl ⟨by rw [← E.out.1, ← E.out.2], ?_⟩
      exact hG.store9 (by omega) _ _ _ _ _ _ _ _ _
    · by_cases hk8 : k < 8
      · obtain ⟨e, he, he1, he2⟩ := dd_nat m k
        have hcell := hN.d k hk8
        rw [he] at hcell
        have hfr := hN.f k (by omega)
        obtain ⟨s1, s2, s3, _⟩ := setD_spec m k ((c + e) % 65536) hm hk8 (by omega)
        have hpr := plus_round m c k hm hk8
        rw [← he2] at hpr
        have P : Hid (setD m k ((c + e) % 65536) + (c + e) / 65536 * 65536 ^ (k + 1) = m + c * 65536 ^ k) := hpr
        have S1 : Hid (dd (setD m k ((c + e) % 65536)) k = (((c + e) % 65536 : Nat) : Int)) := s1
        have S2 : Hid (∀ j, j < 8 → j ≠ k → dd (setD m k ((c + e) % 65536)) j = dd m j) := s2
        clear he he2 hpr s1 s2 r0 r1 r2 r3 r4 r5 r6 r7 r8 f0 f1 f2 f3 f4 f5 f6 f7 f8
        go_wp2
        refine ⟨⟨setD m k ((c + e) % 65536), (c + e) / 65536, k + 1, by go_num, by go_num, by omega, s3, by omega, P.out.trans X.out, hG.setCell (by simp) _, ?_, hR.far _ _ (by omega) _⟩, by simp [intOf]; omega⟩
        exact hN.setDigit k hk8 _ (S1.out.trans (by omega)) S2.out
      · obtain ⟨c0, c1, c2, c3, c4, c5, c6, c7, c8⟩ := hN.cells
        have f9 := hN.f 8 (by omega)
        have E : Hid (m = (n + v * 65536 ^ at') % 340282366920938463463374607431768211456 ∧ true = (o || decide (340282366920938463463374607431768211456 ≤ n + v * 65536 ^ at'))) := by
          obtain ⟨p1, p2⟩ := pow_past k (by omega) c m hm (by omega)
          have := X.out
          rw [← this]
          exact ⟨p1.symm, by rw [decide_eq_true p2]; simp⟩
        clear X hN hR
        go_wp2
        refine bodyPost_ret (v := Nm m true) (by simp [results, Tryz.results136, go_sem, r0, r1, r2, r3, r4, r5, r6, r7, r8]) rfl ⟨by rw [← E.out.1, ← E.out.2], ?_⟩
        exact (hG.setCell (by simp) _).store9 (by omega) _ _ _ _ _ _ _ _ _

end Go.Proofs.YtbnljabeccebiabGreat

/- The reference's Cmp and Less, as contracts. -/
namespace Go.Proofs.YtbnljabeccebiabGreat
open Go.RowKit

theorem ret_int {k : IntKind} {a b : Int} (h : a = b) : Ending.returned (.int k a) = .returned (.int k b) := by rw [h]
theorem up_digit (a t : Nat) : a / 65536 ^ t = a / 65536 ^ (t + 1) * 65536 + a / 65536 ^ t % 65536 := by
  rw [Nat.pow_succ, ← Nat.div_div_eq_div_mul]; omega
theorem lt_of_div {a b d : Nat} (h : a / d < b / d) : a < b := by
  apply Nat.lt_of_not_le; intro hc
  exact absurd (Nat.div_le_div_right (c := d) hc) (by omega)

set_option maxHeartbeats 2000000 in
theorem refcmp_any (a b : Nat) (ha : a < 340282366920938463463374607431768211456) (hb : b < 340282366920938463463374607431768211456) (o p : Bool) (w : World) :
    Calls Tryz.prog 50 #[Nm a o, Nm b p] w fun e w' => e = .returned (.int .i64 (cmp3 a b)) ∧ Gr w w' := by
  have n0 := (NumAt.new w a o 115).call ((Gr.refl _).alloc #[.int .i64 (dd b 0), .int .i64 (dd b 1), .int .i64 (dd b 2), .int .i64 (dd b 3), .int .i64 (dd b 4), .int .i64 (dd b 5), .int .i64 (dd b 6), .int .i64 (dd b 7), .bool p] 115)
  have n1 := NumAt.new (w.alloc (.cells #[.int .i64 (dd a 0), .int .i64 (dd a 1), .int .i64 (dd a 2), .int .i64 (dd a 3), .int .i64 (dd a 4), .int .i64 (dd a 5), .int .i64 (dd a 6), .int .i64 (dd a 7), .bool o] 115)) b p 115
  simp only [World.size_alloc] at n1
  go_enter Tryz.func50, Tryz.ntmps50
  go_wp2
  go_loopw [5] (fun iv w' => ∃ z : Int, ∃ k : Nat, iv = .int .i64 z ∧ z = (k : Int) - 1 ∧ k ≤ 8 ∧ Hid (a / 65536 ^ k = b / 65536 ^ k) ∧ Gr w w' ∧ NumAt w' w.heap.size a o ∧ NumAt w' (w.heap.size + 1) b p) (fun iv _ => (intOf iv + 1).toNat)
  case atStart =>
    refine ⟨7, 8, rfl, by omega, by omega, ?_, ((Gr.refl _).alloc _ _).alloc _ _, n0, n1⟩
    show a / 65536 ^ 8 = b / 65536 ^ 8
    rw [Nat.div_eq_of_lt ha, Nat.div_eq_of_lt hb]
  case round =>
    clear n0 n1
    obtain ⟨z, k, rfl, hz, hk, X, hG, hA, hB⟩ := hrel
    cases k with
    | zero =>
      have E : Hid (cmp3 a b = 0) := by
        have := X.out
        simp at this
        subst this; unfold Hid cmp3; simp
      have hz' : z < 0 := by omega
      clear hz X hA hB
      go_wp2
      go_ret
      exact ⟨ret_int E.out.symm, hG⟩
    | succ t =>
      have hzt : z = (t : Int) := by omega
      subst hzt
      obtain ⟨e, he, he1, he2⟩ := dd_nat a t
      obtain ⟨f, hf, hf1, hf2⟩ := dd_nat b t
      have ca := hA.d t (by omega)
      have cb := hB.d t (by omega)
      rw [he] at ca; rw [hf] at cb
      have ua := up_digit a t
      have ub := up_digit b t
      rw [← he2] at ua; rw [← hf2] at ub
      have hX := X.out
      by_cases hlt : e < f
      · have E : Hid (cmp3 a b = -1) := by unfold Hid cmp3; rw [if_pos (lt_of_div (d := 65536 ^ t) (by omega))]
        have g1 : ((e : Int) == (f : Int)) = false := by rw [beq_eq_false_iff_ne]; omega
        clear he he2 hf hf2 ua ub hX X hz hA hB
        go_wp2
        go_quiet (fail)
        go_wp2
        go_quiet (fail)
        go_wp2
        go_ret
        exact ⟨ret_int E.out.symm, (hG.drewN _).drewN _⟩
      by_cases hgt : f < e
      · have hba : b < a := lt_of_div (d := 65536 ^ t) (by omega)
        have E : Hid (cmp3 a b = 1) := by unfold Hid cmp3; rw [if_neg (by omega), if_neg (by omega)]
        have g1 : ((e : Int) == (f : Int)) = false := by rw [beq_eq_false_iff_ne]; omega
        clear he he2 hf hf2 ua ub hX X hz hA hB hba
        go_wp2
        go_quiet (fail)
        go_wp2
        go_quiet (fail)
        go_wp2
        go_ret
        exact ⟨ret_int E.out.symm, (hG.drewN _).drewN _⟩
      · have hef : f = e := by omega
        subst hef
        have E : Hid (a / 65536 ^ t = b / 65536 ^ t) := by unfold Hid; omega
        clear he he2 hf hf2 ua ub hX X hz hlt hgt
        go_wp2
        go_quiet (fail)
        go_wp2
        refine ⟨⟨(t : Int) - 1, t, by go_num, rfl, by omega, E, hG.drewN _, hA.call ((Gr.refl _).drewN _), hB.call ((Gr.refl _).drewN _)⟩, by simp [intOf]⟩

set_option maxHeartbeats 1000000 in
theorem less_any (a b : Nat) (ha : a < 340282366920938463463374607431768211456) (hb : b < 340282366920938463463374607431768211456) (w : World) :
    Calls Tryz.prog 24 #[Wd a, Wd b] w fun e w' => e = .returned (.bool (decide (a < b))) ∧ Gr w w' := by
  have c0 : ((w.alloc (.cells #[.int .u64 (hi a), .int .u64 (lo a)] 58)).alloc (.cells #[.int .u64 (hi b), .int .u64 (lo b)] 58)).cell? ⟨w.heap.size, 0, none⟩ = some (.int .u64 (hi a)) := by simp [go_sem]
  have c1 : ((w.alloc (.cells #[.int .u64 (hi a), .int .u64 (lo a)] 58)).alloc (.cells #[.int .u64 (hi b), .int .u64 (lo b)] 58)).cell? ⟨w.heap.size, 1, none⟩ = some (.int .u64 (lo a)) := by simp [go_sem]
  have c2 : ((w.alloc (.cells #[.int .u64 (hi a), .int .u64 (lo a)] 58)).alloc (.cells #[.int .u64 (hi b), .int .u64 (lo b)] 58)).cell? ⟨w.heap.size + 1, 0, none⟩ = some (.int .u64 (hi b)) := by simp [go_sem]
  have c3 : ((w.alloc (.cells #[.int .u64 (hi a), .int .u64 (lo a)] 58)).alloc (.cells #[.int .u64 (hi b), .int .u64 (lo b)] 58)).cell? ⟨w.heap.size + 1, 1, none⟩ = some (.int .u64 (lo b)) := by simp [go_sem]
  have E : Hid (decide (cmp3 a b < 0) = decide (a < b)) := by
    unfold Hid cmp3
    by_cases h : a < b
    · simp [h]
    · rw [if_neg h]; split <;> simp [h]
  go_enter Tryz.func24, Tryz.ntmps24
  go_wp2
  go_region_held3 (fun w' => w'.cell? ⟨w.heap.size, 0, none⟩ = some (.int .u64 (hi a)) ∧ w'.cell? ⟨w.heap.size, 1, none⟩ = some (.int .u64 (lo a)) ∧ w'.cell? ⟨w.heap.size + 1, 0, none⟩ = some (.int .u64 (hi b)) ∧ w'.cell? ⟨w.heap.size + 1, 1, none⟩ = some (.int .u64 (lo b))) (first | exact ⟨c0, c1, c2, c3⟩ | exact call_keeps4 (by assumption) (by assumption))
    (first
      | (go_at_call_of 51 (hi a); refine (of_any a ha _).mono ?_; rintro e w1 ⟨rfl, g1⟩)
      | (go_at_call_of 51 (hi b); refine (of_any b hb _).mono ?_; rintro e w2 ⟨rfl, g2⟩)
      | (go_at_call 50; refine (refcmp_any a b ha hb false false _).mono ?_; rintro e w3 ⟨rfl, g3⟩))
  all_goals
    go_wp2
    go_ret
    exact ⟨ret_bool E.out, by repeat (first | exact ((Gr.refl _).alloc _ _).alloc _ _ | apply Gr.drew | refine Gr.trans ?_ g3 | refine Gr.trans ?_ g2 | refine Gr.trans ?_ g1)⟩

end Go.Proofs.YtbnljabeccebiabGreat

/- The reference's Wide and Add, as contracts. -/
namespace Go.Proofs.YtbnljabeccebiabGreat
open Go.RowKit

set_option maxHeartbeats 2000000 in
theorem wide_any (n : Nat) (hn : n < 340282366920938463463374607431768211456) (o : Bool) (w : World) :
    Calls Tryz.prog 95 #[Nm n o] w fun e w' => e = .returned (Wd n) ∧ Gr w w' := by
  have n0 := ((NumAt.new w n o 115).call ((Gr.refl _).alloc #[.int .u64 0, .int .u64 0] 58)).call ((Gr.refl _).alloc #[.int .u64 0, .int .u64 0] 58)
  go_enter Tryz.func95, Tryz.ntmps95
  go_wp2
  go_loopw [4] (fun iv w' => ∃ z : Int, ∃ k x y : Nat, iv = .int .i64 z ∧ z = (k : Int) - 1 ∧ k ≤ 4 ∧ Hid (x = n / 18446744073709551616 / 65536 ^ k ∧ y = n % 18446744073709551616 / 65536 ^ k) ∧ Gr (((w.alloc (.cells #[.int .i64 (dd n 0), .int .i64 (dd n 1), .int .i64 (dd n 2), .int .i64 (dd n 3), .int .i64 (dd n 4), .int .i64 (dd n 5), .int .i64 (dd n 6), .int .i64 (dd n 7), .bool o] 115)).alloc (.cells #[.int .u64 0, .int .u64 0] 58))) w' ∧ NumAt w' w.heap.size n o ∧ w'.cell? ⟨w.heap.size + 1 + 1, 0, none⟩ = some (.int .u64 (x : Int)) ∧ w'.cell? ⟨w.heap.size + 1 + 1, 1, none⟩ = some (.int .u64 (y : Int)) ∧ w'.frozen? ⟨w.heap.size + 1 + 1, 0, none⟩ = false ∧ w'.frozen? ⟨w.heap.size + 1 + 1, 1, none⟩ = false) (fun iv _ => (intOf iv + 1).toNat)
  case atStart =>
    refine ⟨3, 4, 0, 0, rfl, by omega, by omega, ?_, (Gr.refl _).alloc _ _, n0, by simp [go_sem], by simp [go_sem], by simp [go_sem], by simp [go_sem]⟩
    show 0 = n / 18446744073709551616 / 65536 ^ 4 ∧ 0 = n % 18446744073709551616 / 65536 ^ 4
    simp only [Nat.reducePow]; omega
  case round =>
    clear n0
    obtain ⟨z, k, x, y, rfl, hz, hk, X, hG, hN, c0, c1, f0, f1⟩ := hrel
    cases k with
    | zero =>
      have hz' : z < 0 := by omega
      have E : Hid ((x : Int) = hi n ∧ (y : Int) = lo n) := by
        have := X.out
        simp at this
        obtain ⟨h1, h2⟩ := this
        subst h1 h2; exact ⟨rfl, rfl⟩
      have V := hG.var2
      simp only [World.size_alloc] at V
      obtain ⟨v0, v1, v2, v3⟩ := V
      clear hz X hN
      go_wp2
      refine bodyPost_ret (v := Wd n) ?_ rfl ⟨rfl, ?_⟩
      · rw [Wd, ← E.out.1, ← E.out.2]; simp [results, Tryz.results95, go_sem, v0, v1]
      · exact (((((Gr.refl _).alloc _ _).alloc _ _).trans hG).setCell (by simp) _).setCell (by simp) _
    | succ t =>
      have hzt : z = (t : Int) := by omega
      subst hzt
      obtain ⟨e, he, he1, he2⟩ := dd_nat n t
      obtain ⟨f, hf, hf1, hf2⟩ := dd_nat n (4 + t)
      have ca := hN.d t (by omega)
      have cb := hN.d (4 + t) (by omega)
      rw [he] at ca; rw [hf] at cb
      have hnb : w.heap.size + 1 + 1 ≠ w.heap.size := by omega
      have hx : x < 281474976710656 ∧ y < 281474976710656 := by
        obtain ⟨h1, h2⟩ := X.out
        have ht : t = 0 ∨ t = 1 ∨ t = 2 ∨ t = 3 := by omega
        rcases ht with rfl | rfl | rfl | rfl <;> (simp only [Nat.reduceAdd, Nat.reducePow] at h1 h2; omega)
      obtain ⟨x1, y1⟩ := hx
      have X' : Hid (65536 * x + f = n / 18446744073709551616 / 65536 ^ t ∧ 65536 * y + e = n % 18446744073709551616 / 65536 ^ t) := by
        obtain ⟨h1, h2⟩ := X.out
        have ht : t = 0 ∨ t = 1 ∨ t = 2 ∨ t = 3 := by omega
        unfold Hid
        rcases ht with rfl | rfl | rfl | rfl <;> (simp only [Nat.reduceAdd, Nat.reducePow] at *; omega)
      clear he he2 hf hf2 X hz
      go_wp2
      go_region
      go_wp2
      go_region
      go_wp2
      refine ⟨⟨(t : Int) - 1, t, 65536 * x + f, 65536 * y + e, by go_num, rfl, by omega, X', ?_, ?_, ?_, ?_, ?_, ?_⟩, by simp [intOf]⟩
      · exact (((hG.setCell (by simp) _).drew.setCell (by simp) _).drew)
      · exact ((hN.far _ _ hnb _).far _ _ hnb _).call ((Gr.refl _).drew.drew)
      · simp [go_sem, c0]
      · simp [go_sem, c1]
      · simp [go_sem, f0]
      · simp [go_sem, f1]

end Go.Proofs.YtbnljabeccebiabGreat

/- What the walks over Times lean on. -/
namespace Go.Proofs.YtbnljabeccebiabGreat
open Go.RowKit

theorem Gr.undrew {w w' : World} (g : Gr w.drew w') : Gr w w' := (Gr.refl w).drew.trans g
/-- plus, its answer under names. -/
theorem plus_ex (n : Nat) (hn : n < 340282366920938463463374607431768211456) (o : Bool) (k v : Nat) (hk : k ≤ 14) (hv : v < 8589934592) (w : World) :
    Calls Tryz.prog 136 #[Nm n o, .int .i64 (k : Int), .int .i64 (v : Int)] w fun e w' => ∃ q : Nat, ∃ p : Bool, e = .returned (Nm q p) ∧ q < 340282366920938463463374607431768211456 ∧
      Hid (q = (n + v * 65536 ^ k) % 340282366920938463463374607431768211456 ∧ p = (o || decide (340282366920938463463374607431768211456 ≤ n + v * 65536 ^ k))) ∧ Gr w w' := by
  refine (plus_any n hn o k v hk hv w).mono ?_
  rintro e w' ⟨rfl, g⟩
  exact ⟨_, _, rfl, Nat.mod_lt _ (by omega), ⟨rfl, rfl⟩, g⟩
/-- What is left of a number that is added to part by part, and whether it was ever too great. -/
theorem sum_step (Y d : Nat) (ov : Bool) (q q' : Nat) (p p' : Bool) (hq : q = Y % 340282366920938463463374607431768211456) (hp : p = (ov || decide (340282366920938463463374607431768211456 ≤ Y)))
    (hq' : q' = (q + d) % 340282366920938463463374607431768211456) (hp' : p' = (p || decide (340282366920938463463374607431768211456 ≤ q + d))) :
    q' = (Y + d) % 340282366920938463463374607431768211456 ∧ p' = (ov || decide (340282366920938463463374607431768211456 ≤ Y + d)) := by
  subst hq hp hq' hp'
  refine ⟨by omega, ?_⟩
  by_cases h : 340282366920938463463374607431768211456 ≤ Y
  · rw [decide_eq_true h, decide_eq_true (show 340282366920938463463374607431768211456 ≤ Y + d by omega)]; simp
  · rw [Nat.mod_eq_of_lt (by omega), decide_eq_false h]; simp
theorem NumAt.zero (w : World) (t : TypeId) : NumAt (w.alloc (.cells #[.int .i64 0, .int .i64 0, .int .i64 0, .int .i64 0, .int .i64 0, .int .i64 0, .int .i64 0, .int .i64 0, .bool false] t)) w.heap.size 0 false := NumAt.new w 0 false t
theorem NumAt.drew {w : World} {B n : Nat} {o : Bool} (h : NumAt w B n o) : NumAt w.drew B n o := h.call (Gr.refl _).drew

end Go.Proofs.YtbnljabeccebiabGreat
