/- router.Check and Budget, and the reference's. -/
import Derived.Test.YtgmjokmiifmckaaRoS
import Derived.Test.YtgmjokmiifmckaaRefV
namespace Go.Proofs.Ytgmjokmiifmckaa
open Go.RowKit

/-- A question as the program's struct. -/
abbrev Qv (v : Value) (K m b : Int) : Value := .agg #[v, .int .i64 K, .int .i64 m, .int .i64 b]
def mbV (m : Int) : Int := if m = 1 then 0 else 1000000
/-- P15.4. -/
def qE (l : List Int) (K m b dim : Int) : Int := if chk l dim = 0 then (if K < 1 ∨ 64 < K then 1 else if m = 1 ∨ m = 2 then (if b < 0 ∨ mbV m < b then 1 else 0) else 210) else chk l dim
/-- P15.3. -/
def buE (k n p c rows : Int) (l : List Int) (K m b : Int) : Int := if chkV k n p c = 0 then (if rows < 0 ∨ 512 < rows then 1 else qE l K m b l.length) else chkV k n p c
def buN (k n p c rows : Int) (l : List Int) (K m b : Int) : Int := if buE k n p c rows l K m b = 0 then (if m = 1 then rows else min rows b) else 0

theorem most_b (m : Int) (w : World) : Calls Try.prog 31 #[.int .i64 m] w fun e w' => e = .returned (.int .i64 (mbV m)) ∧ w' = w := by
  by_cases h : m = 1
  · subst h
    go_enter Try.func31, Try.ntmps31
    go_wp2
    go_ret
    exact ⟨rfl, rfl⟩
  · have e : Hid (mbV m = 1000000) := if_neg h
    have hb : (m == 1) = false := by simpa using h
    clear h
    go_enter Try.func31, Try.ntmps31
    go_wp2
    go_ret
    exact ⟨by rw [e.out]; rfl, rfl⟩
set_option maxHeartbeats 4000000 in
theorem qcheck_c {w : World} {v : Value} {l : List Int} (h : RdI w v l) (K m b dim : Int) :
    Calls Try.prog 14 #[Qv v K m b, .int .i64 dim] w fun e w' => e = .returned (.int .i64 (qE l K m b dim)) ∧ Gb w w' := by
  have g0 : Gb w (w.alloc (.cells #[v, .int .i64 K, .int .i64 m, .int .i64 b] 36)) := gb_alloc (Below.refl _ _) _
  have h1 := h.gb g0
  obtain ⟨a, cap, rfl, _⟩ := h
  have hV := check_c h1 dim
  have hK := fun W => isK_c K W
  have hM := fun W => isMode_c m W
  have hB := fun W => most_b m W
  unfold qE
  generalize hz : chk l dim = z at *
  generalize l.length = n at *
  clear hz h1
  by_cases h0 : z = 0
  · subst h0
    rw [if_pos rfl]
    by_cases h1 : K < 1 ∨ 64 < K
    · rw [if_pos h1]
      rw [show (decide (1 ≤ K) && decide (K ≤ 64)) = false by simp; omega] at hK
      clear h1
      go_enter Try.func14, Try.ntmps14
      go_wp2_with first | (go_at_call 28; refine hV.mono ?_; rintro e w1 ⟨rfl, rfl⟩) | (go_at_call 29; refine (hK _).mono ?_; rintro e w1 ⟨rfl, e1⟩; rw [e1]; clear e1 w1)
      go_ret
      exact ⟨rfl, g0⟩
    rw [if_neg h1]
    rw [show (decide (1 ≤ K) && decide (K ≤ 64)) = true by simp; omega] at hK
    clear h1
    by_cases h2 : m = 1 ∨ m = 2
    · rw [if_pos h2]
      rw [show (m == 1 || m == 2) = true by simpa using h2] at hM
      clear h2
      generalize mbV m = mb at *
      by_cases h3 : b < 0
      · rw [if_pos (Or.inl h3)]
        have d3 : decide (b < 0) = true := decide_eq_true h3
        go_enter Try.func14, Try.ntmps14
        go_wp2_with first | (go_at_call 28; refine hV.mono ?_; rintro e w1 ⟨rfl, rfl⟩) | (go_at_call 29; refine (hK _).mono ?_; rintro e w1 ⟨rfl, e1⟩; rw [e1]; clear e1 w1) | (go_at_call 30; refine (hM _).mono ?_; rintro e w1 ⟨rfl, e1⟩; rw [e1]; clear e1 w1)
        go_quiet (fail)
        go_wp2
        go_ret
        exact ⟨rfl, below_drewN g0 _⟩
      · have d3 : decide (b < 0) = false := decide_eq_false h3
        by_cases h4 : mb < b
        · rw [if_pos (Or.inr h4)]
          go_enter Try.func14, Try.ntmps14
          go_wp2_with first | (go_at_call 28; refine hV.mono ?_; rintro e w1 ⟨rfl, rfl⟩) | (go_at_call 29; refine (hK _).mono ?_; rintro e w1 ⟨rfl, e1⟩; rw [e1]; clear e1 w1) | (go_at_call 30; refine (hM _).mono ?_; rintro e w1 ⟨rfl, e1⟩; rw [e1]; clear e1 w1)
          go_quiet (first | (go_at_call 31; exact Calls.quiet_of_same (hB _)))
          go_wp2
          go_ret
          exact ⟨rfl, below_drewN g0 _⟩
        · rw [if_neg (by omega)]
          go_enter Try.func14, Try.ntmps14
          go_wp2_with first | (go_at_call 28; refine hV.mono ?_; rintro e w1 ⟨rfl, rfl⟩) | (go_at_call 29; refine (hK _).mono ?_; rintro e w1 ⟨rfl, e1⟩; rw [e1]; clear e1 w1) | (go_at_call 30; refine (hM _).mono ?_; rintro e w1 ⟨rfl, e1⟩; rw [e1]; clear e1 w1)
          go_quiet (first | (go_at_call 31; exact Calls.quiet_of_same (hB _)))
          go_wp2
          go_ret
          exact ⟨rfl, below_drewN g0 _⟩
    · rw [if_neg h2]
      rw [show (m == 1 || m == 2) = false by simpa using h2] at hM
      clear h2
      go_enter Try.func14, Try.ntmps14
      go_wp2_with first | (go_at_call 28; refine hV.mono ?_; rintro e w1 ⟨rfl, rfl⟩) | (go_at_call 29; refine (hK _).mono ?_; rintro e w1 ⟨rfl, e1⟩; rw [e1]; clear e1 w1) | (go_at_call 30; refine (hM _).mono ?_; rintro e w1 ⟨rfl, e1⟩; rw [e1]; clear e1 w1)
      go_ret
      exact ⟨rfl, g0⟩
  · rw [if_neg h0]
    have hb : (z != 0) = true := by simpa using h0
    clear h0
    go_enter Try.func14, Try.ntmps14
    go_wp2_with (go_at_call 28; refine hV.mono ?_; rintro e w1 ⟨rfl, rfl⟩)
    go_ret
    exact ⟨rfl, g0⟩
set_option maxHeartbeats 4000000 in
theorem rqcheck_c {w : World} {v : Value} {l : List Int} (h : RdI w v l) (K m b dim : Int) :
    Calls Try.prog 17 #[Qv v K m b, .int .i64 dim] w fun e w' => e = .returned (.int .i64 (qE l K m b dim)) ∧ Gb w w' := by
  have g0 : Gb w (w.alloc (.cells #[v, .int .i64 K, .int .i64 m, .int .i64 b] 36)) := gb_alloc (Below.refl _ _) _
  have h1 := h.gb g0
  obtain ⟨a, cap, rfl, _⟩ := h
  have hV := rcheck_c h1 dim
  have hM := fun W => rmode_c m W
  unfold qE
  generalize hz : chk l dim = z at *
  generalize l.length = n at *
  clear hz h1
  by_cases h0 : z = 0
  · subst h0
    rw [if_pos rfl]
    by_cases h1 : K < 1
    · rw [if_pos (Or.inl h1)]
      go_enter Try.func17, Try.ntmps17
      go_wp2_with (go_at_call 33; refine hV.mono ?_; rintro e w1 ⟨rfl, rfl⟩)
      go_ret
      exact ⟨rfl, g0⟩
    by_cases h1' : 64 < K
    · rw [if_pos (Or.inr h1')]
      go_enter Try.func17, Try.ntmps17
      go_wp2_with (go_at_call 33; refine hV.mono ?_; rintro e w1 ⟨rfl, rfl⟩)
      go_ret
      exact ⟨rfl, g0⟩
    rw [if_neg (by omega)]
    by_cases h2 : m = 1 ∨ m = 2
    · rw [if_pos h2]
      rw [show (m == 1 || m == 2) = true by simpa using h2] at hM
      have go : ∀ (m1 b0 : Bool), (m == 1) = m1 → (b != 0) = b0 → Calls Try.prog 17 #[Qv (.slice a n cap) K m b, .int .i64 dim] w fun e w' => e = .returned (.int .i64 (if (m1 && b0 || decide (b < 0) || decide (1000000 < b)) = true then 1 else 0)) ∧ Gb w w' := by
        intro m1 b0 e1 e2
        clear h2
        cases m1 with
        | false =>
          by_cases h3 : b < 0
          · have d3 : decide (b < 0) = true := decide_eq_true h3
            go_enter Try.func17, Try.ntmps17
            go_wp2_with first | (go_at_call 33; refine hV.mono ?_; rintro e w1 ⟨rfl, rfl⟩) | (go_at_call 27; refine (hM _).mono ?_; rintro e w1 ⟨rfl, e1⟩; rw [e1]; clear e1 w1)
            all_goals (go_ret; exact ⟨by first | rfl | simp_all, g0⟩)
          · have d3 : decide (b < 0) = false := decide_eq_false h3
            by_cases h4 : 1000000 < b
            · go_enter Try.func17, Try.ntmps17
              go_wp2_with first | (go_at_call 33; refine hV.mono ?_; rintro e w1 ⟨rfl, rfl⟩) | (go_at_call 27; refine (hM _).mono ?_; rintro e w1 ⟨rfl, e1⟩; rw [e1]; clear e1 w1)
              all_goals (go_ret; exact ⟨by first | rfl | simp_all, g0⟩)
            · go_enter Try.func17, Try.ntmps17
              go_wp2_with first | (go_at_call 33; refine hV.mono ?_; rintro e w1 ⟨rfl, rfl⟩) | (go_at_call 27; refine (hM _).mono ?_; rintro e w1 ⟨rfl, e1⟩; rw [e1]; clear e1 w1)
              all_goals (go_ret; exact ⟨by first | rfl | simp_all, g0⟩)
        | true =>
          cases b0 with
          | true =>
            go_enter Try.func17, Try.ntmps17
            go_wp2_with first | (go_at_call 33; refine hV.mono ?_; rintro e w1 ⟨rfl, rfl⟩) | (go_at_call 27; refine (hM _).mono ?_; rintro e w1 ⟨rfl, e1⟩; rw [e1]; clear e1 w1)
            all_goals (go_ret; exact ⟨by first | rfl | simp_all, g0⟩)
          | false =>
            obtain rfl : b = 0 := by simpa using e2
            go_enter Try.func17, Try.ntmps17
            go_wp2_with first | (go_at_call 33; refine hV.mono ?_; rintro e w1 ⟨rfl, rfl⟩) | (go_at_call 27; refine (hM _).mono ?_; rintro e w1 ⟨rfl, e1⟩; rw [e1]; clear e1 w1)
            all_goals (go_ret; exact ⟨by first | rfl | simp_all, g0⟩)
      have := go _ _ rfl rfl
      rw [show (if b < 0 ∨ mbV m < b then (1 : Int) else 0) = if ((m == 1) && (b != 0) || decide (b < 0) || decide (1000000 < b)) = true then 1 else 0 by
        congr 1
        simp only [eq_iff_iff, Bool.or_eq_true, Bool.and_eq_true, decide_eq_true_eq, beq_iff_eq, bne_iff_ne, ne_eq, mbV]
        rcases h2 with rfl | rfl <;> simp <;> omega]
      exact this
    · rw [if_neg h2]
      rw [show (m == 1 || m == 2) = false by simpa using h2] at hM
      clear h2
      go_enter Try.func17, Try.ntmps17
      go_wp2_with first | (go_at_call 33; refine hV.mono ?_; rintro e w1 ⟨rfl, rfl⟩) | (go_at_call 27; refine (hM _).mono ?_; rintro e w1 ⟨rfl, e1⟩; rw [e1]; clear e1 w1)
      go_ret
      exact ⟨rfl, g0⟩
  · rw [if_neg h0]
    have hb : (z != 0) = true := by simpa using h0
    clear h0
    go_enter Try.func17, Try.ntmps17
    go_wp2_with (go_at_call 33; refine hV.mono ?_; rintro e w1 ⟨rfl, rfl⟩)
    go_ret
    exact ⟨rfl, g0⟩
set_option maxHeartbeats 4000000 in
theorem budget_c {w : World} {v : Value} {l : List Int} (h : RdI w v l) (k n p c rows K m b : Int) :
    Calls Try.prog 13 #[Sp k n p c, .int .i64 rows, Qv v K m b] w fun e w' => e = .returned (.tuple #[.int .i64 (buN k n p c rows l K m b), .int .i64 (buE k n p c rows l K m b)]) ∧ Gb w w' := by
  have hC := fun W => fchk_c k n p c W
  have hI := fun W => isCount_c rows W
  have hQ := fun W (g : Gb w W) => qcheck_c (h.gb g) K m b l.length
  obtain ⟨a, cap, rfl, _⟩ := h
  unfold buN buE
  generalize qE l K m b l.length = z at *
  generalize l.length = nn at *
  have ga : ∀ {W : World} (_ : Gb w W) (o : Obj), Gb w (W.alloc o) := fun g o => gb_alloc g o
  by_cases h0 : chkV k n p c = 0
  · rw [if_pos h0]
    rw [h0] at hC
    clear h0
    by_cases h1 : rows < 0 ∨ 512 < rows
    · rw [if_pos h1]
      rw [if_neg (by decide)]
      rw [show (decide (0 ≤ rows) && decide (rows ≤ 512)) = false by simp; omega] at hI
      clear h1
      go_enter Try.func13, Try.ntmps13
      go_wp2_with first | (go_at_call 18; refine (hC _).mono ?_; rintro e w1 ⟨rfl, e1⟩; rw [e1]; clear e1 w1) | (go_at_call 19; refine (hI _).mono ?_; rintro e w1 ⟨rfl, e1⟩; rw [e1]; clear e1 w1)
      go_ret2
      exact ⟨rfl, ga (ga (ga (Below.refl _ _) _) _) _⟩
    rw [if_neg h1]
    rw [show (decide (0 ≤ rows) && decide (rows ≤ 512)) = true by simp; omega] at hI
    clear h1
    by_cases hz : z = 0
    · subst hz
      rw [if_pos rfl]
      by_cases hm : m = 1
      · rw [if_pos hm]
        have hm' : (m == 1) = true := by simpa using hm
        clear hm
        go_enter Try.func13, Try.ntmps13
        go_wp2_with fail
        refine (hC _).mono ?_
        rintro e w1 ⟨rfl, e1⟩; rw [e1]; clear e1 w1
        go_wp2_with fail
        refine (hI _).mono ?_
        rintro e w1 ⟨rfl, e1⟩; rw [e1]; clear e1 w1
        go_wp2_with fail
        refine (hQ _ (ga (ga (ga (Below.refl _ _) _) _) _)).mono ?_
        rintro e w1 ⟨rfl, g⟩
        have f2 : w1.cell? ⟨w.heap.size + 1, 2, none⟩ = some (.int .i64 m) := gb_keeps g (by simp [go_sem])
        go_wp2
        go_ret2
        exact ⟨rfl, gb_trans (ga (ga (ga (Below.refl _ _) _) _) _) g⟩
      · rw [if_neg hm]
        have hm' : (m == 1) = false := by simpa using hm
        clear hm
        go_enter Try.func13, Try.ntmps13
        go_wp2_with fail
        refine (hC _).mono ?_
        rintro e w1 ⟨rfl, e1⟩; rw [e1]; clear e1 w1
        go_wp2_with fail
        refine (hI _).mono ?_
        rintro e w1 ⟨rfl, e1⟩; rw [e1]; clear e1 w1
        go_wp2_with fail
        refine (hQ _ (ga (ga (ga (Below.refl _ _) _) _) _)).mono ?_
        rintro e w1 ⟨rfl, g⟩
        have f2 : w1.cell? ⟨w.heap.size + 1, 2, none⟩ = some (.int .i64 m) := gb_keeps g (by simp [go_sem])
        have f3 : w1.cell? ⟨w.heap.size + 1, 3, none⟩ = some (.int .i64 b) := gb_keeps g (by simp [go_sem])
        go_wp2
        go_ret2
        exact ⟨rfl, gb_trans (ga (ga (ga (Below.refl _ _) _) _) _) g⟩
    · rw [if_neg hz]
      have hb : (z != 0) = true := by simpa using hz
      clear hz
      go_enter Try.func13, Try.ntmps13
      go_wp2_with first | (go_at_call 18; refine (hC _).mono ?_; rintro e w1 ⟨rfl, e1⟩; rw [e1]; clear e1 w1) | (go_at_call 19; refine (hI _).mono ?_; rintro e w1 ⟨rfl, e1⟩; rw [e1]; clear e1 w1) | (go_at_call 14; refine (hQ _ (ga (ga (ga (Below.refl _ _) _) _) _)).mono ?_; rintro e w1 ⟨rfl, g⟩)
      go_ret2
      exact ⟨rfl, gb_trans (ga (ga (ga (Below.refl _ _) _) _) _) g⟩
  · rw [if_neg h0, if_neg h0]
    have hb : (chkV k n p c != 0) = true := by simpa using h0
    clear h0
    generalize chkV k n p c = y at *
    go_enter Try.func13, Try.ntmps13
    go_wp2_with first | (go_at_call 18; refine (hC _).mono ?_; rintro e w1 ⟨rfl, e1⟩; rw [e1]; clear e1 w1) | (go_at_call 19; refine (hI _).mono ?_; rintro e w1 ⟨rfl, e1⟩; rw [e1]; clear e1 w1)
    go_ret2
    exact ⟨rfl, ga (ga (ga (Below.refl _ _) _) _) _⟩
set_option maxHeartbeats 4000000 in
theorem rbudget_c {w : World} {v : Value} {l : List Int} (h : RdI w v l) (k n p c rows K m b : Int) :
    Calls Try.prog 16 #[Sp k n p c, .int .i64 rows, Qv v K m b] w fun e w' => e = .returned (.tuple #[.int .i64 (buN k n p c rows l K m b), .int .i64 (buE k n p c rows l K m b)]) ∧ Gb w w' := by
  have hC := fun W => rfchk_c k n p c W
  have hQ := fun W (g : Gb w W) => rqcheck_c (h.gb g) K m b l.length
  obtain ⟨a, cap, rfl, _⟩ := h
  unfold buN buE
  generalize qE l K m b l.length = z at *
  generalize l.length = nn at *
  have ga : ∀ {W : World} (_ : Gb w W) (o : Obj), Gb w (W.alloc o) := fun g o => gb_alloc g o
  by_cases h0 : chkV k n p c = 0
  · rw [if_pos h0]
    rw [h0] at hC
    clear h0
    by_cases h1 : rows < 0
    · rw [if_pos (Or.inl h1)]
      rw [if_neg (by decide)]
      go_enter Try.func16, Try.ntmps16
      go_wp2_with first | (go_at_call 21; refine (hC _).mono ?_; rintro e w1 ⟨rfl, e1⟩; rw [e1]; clear e1 w1)
      go_ret2
      exact ⟨rfl, ga (ga (ga (Below.refl _ _) _) _) _⟩
    by_cases h2 : 512 < rows
    · rw [if_pos (Or.inr h2)]
      rw [if_neg (by decide)]
      go_enter Try.func16, Try.ntmps16
      go_wp2_with first | (go_at_call 21; refine (hC _).mono ?_; rintro e w1 ⟨rfl, e1⟩; rw [e1]; clear e1 w1)
      go_ret2
      exact ⟨rfl, ga (ga (ga (Below.refl _ _) _) _) _⟩
    rw [if_neg (show ¬ (rows < 0 ∨ 512 < rows) by omega)]
    by_cases hz : z = 0
    · subst hz
      rw [if_pos rfl]
      by_cases hm : m = 1
      · rw [if_pos hm]
        have hm' : (m == 1) = true := by simpa using hm
        clear hm
        go_enter Try.func16, Try.ntmps16
        go_wp2_with fail
        refine (hC _).mono ?_
        rintro e w1 ⟨rfl, e1⟩; rw [e1]; clear e1 w1
        go_wp2_with fail
        refine (hQ _ (ga (ga (ga (Below.refl _ _) _) _) _)).mono ?_
        rintro e w1 ⟨rfl, g⟩
        have f2 : w1.cell? ⟨w.heap.size + 1, 2, none⟩ = some (.int .i64 m) := gb_keeps g (by simp [go_sem])
        go_wp2
        go_ret2
        exact ⟨rfl, gb_trans (ga (ga (ga (Below.refl _ _) _) _) _) g⟩
      · rw [if_neg hm]
        have hm' : (m == 1) = false := by simpa using hm
        clear hm
        go_enter Try.func16, Try.ntmps16
        go_wp2_with fail
        refine (hC _).mono ?_
        rintro e w1 ⟨rfl, e1⟩; rw [e1]; clear e1 w1
        go_wp2_with fail
        refine (hQ _ (ga (ga (ga (Below.refl _ _) _) _) _)).mono ?_
        rintro e w1 ⟨rfl, g⟩
        have f2 : w1.cell? ⟨w.heap.size + 1, 2, none⟩ = some (.int .i64 m) := gb_keeps g (by simp [go_sem])
        have f3 : w1.cell? ⟨w.heap.size + 1, 3, none⟩ = some (.int .i64 b) := gb_keeps g (by simp [go_sem])
        go_wp2
        go_ret2
        exact ⟨rfl, gb_trans (ga (ga (ga (Below.refl _ _) _) _) _) g⟩
    · rw [if_neg hz]
      have hb : (z != 0) = true := by simpa using hz
      clear hz
      go_enter Try.func16, Try.ntmps16
      go_wp2_with first | (go_at_call 21; refine (hC _).mono ?_; rintro e w1 ⟨rfl, e1⟩; rw [e1]; clear e1 w1) | (go_at_call 17; refine (hQ _ (ga (ga (ga (Below.refl _ _) _) _) _)).mono ?_; rintro e w1 ⟨rfl, g⟩)
      go_ret2
      exact ⟨rfl, gb_trans (ga (ga (ga (Below.refl _ _) _) _) _) g⟩
  · rw [if_neg h0, if_neg h0]
    have hb : (chkV k n p c != 0) = true := by simpa using h0
    clear h0
    generalize chkV k n p c = y at *
    go_enter Try.func16, Try.ntmps16
    go_wp2_with first | (go_at_call 21; refine (hC _).mono ?_; rintro e w1 ⟨rfl, e1⟩; rw [e1]; clear e1 w1)
    go_ret2
    exact ⟨rfl, ga (ga (ga (Below.refl _ _) _) _) _⟩
end Go.Proofs.Ytgmjokmiifmckaa
