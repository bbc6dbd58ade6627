/- router's costs: the ways of searching, Cost; the reference's digits, up and Cost. -/
import Derived.Test.YtgmjokmiifmckaaRoF
import Derived.Shelf.Lay
import Derived.Ground.NamesProg
import Derived.Shelf.Small.Bits
import Derived.LoopN
namespace Go.Proofs.Ytgmjokmiifmckaa
open Go.RowKit Go.Shelf
shelf_lay Lays.n125 Nm 125 at Try as Try.laysLen

/-- How many digits a number has in the binary system. -/
def digV (n : Int) : Int := (Lib.bitLen n.toNat : Int)
/-- A quotient, rounded up. -/
def upV (a b : Int) : Int := (a + b - 1) / b
theorem digV_bd {n : Int} (h0 : 0 ≤ n) (h1 : n ≤ 512) : 0 ≤ digV n ∧ digV n ≤ 10 := by
  refine ⟨by unfold digV; omega, ?_⟩
  obtain ⟨m, rfl⟩ := Int.eq_ofNat_of_zero_le h0
  have hm : m < 513 := by omega
  have : ∀ x : Fin 513, Lib.bitLen x.val ≤ 10 := by decide +kernel
  have := this ⟨m, hm⟩
  unfold digV
  simp only [Int.toNat_natCast] at *
  omega
theorem upV_bd {a b : Int} (h0 : 0 ≤ a) (hb : 1 ≤ b) : 0 ≤ upV a b ∧ upV a b ≤ a := by
  unfold upV
  refine ⟨Int.ediv_nonneg (by omega) (by omega), ?_⟩
  have h1 : a + b - 1 < (a + 1) * b := by
    have := Int.mul_nonneg h0 (show 0 ≤ b - 1 by omega)
    have e : a * (b - 1) = (a + 1) * b - b - a := by grind
    omega
  have := Int.ediv_lt_of_lt_mul (by omega) h1
  omega

theorem len_c (x : Int) (w : World) (h0 : 0 ≤ x) (h1 : x ≤ 512) : Calls Try.prog 46 #[.int .u64 x] w fun e w' => e = .returned (.int .i64 (digV x)) ∧ w' = w :=
  Any.bits_Len Try.laysLen x w h0 (by omega)
theorem up_c (a b : Int) (w : World) (h0 : 0 ≤ a) (h1 : a ≤ 100000) (hb : 1 ≤ b) (hb' : b ≤ 100000) : Calls Try.prog 23 #[.int .i64 a, .int .i64 b] w fun e w' => e = .returned (.int .i64 (upV a b)) ∧ w' = w := by
  have e1 : (b == 0) = false := by rw [beq_eq_false_iff_ne]; omega
  go_enter Try.func23, Try.ntmps23
  go_wp2
  go_ret
  exact ⟨rfl, rfl⟩
theorem div_c (a b : Int) (w : World) (h0 : 0 ≤ a) (h1 : a ≤ 100000) (hb : 1 ≤ b) (hb' : b ≤ 100000) : Calls Try.prog 45 #[.int .i64 a, .int .i64 b] w fun e w' => e = .returned (.int .i64 (upV a b)) ∧ w' = w := by
  have e1 : (b == 0) = false := by rw [beq_eq_false_iff_ne]; omega
  go_enter Try.func45, Try.ntmps45
  go_wp2
  go_ret
  exact ⟨rfl, rfl⟩
/-- A way as the program's struct. -/
abbrev Wy (k n p c rows dim : Int) : Value := .agg #[.int .i64 k, .int .i64 n, .int .i64 p, .int .i64 c, .int .i64 rows, .int .i64 dim]
theorem prod_bd {a b A B : Int} (h0 : 0 ≤ a) (h1 : a ≤ A) (h2 : 0 ≤ b) (h3 : b ≤ B) : 0 ≤ a * b ∧ a * b ≤ A * B :=
  ⟨Int.mul_nonneg h0 h2, Int.le_trans (Int.mul_le_mul_of_nonneg_right h1 h2) (Int.mul_le_mul_of_nonneg_left h3 (by omega))⟩
set_option maxHeartbeats 1000000 in
theorem halved_c (k n p c rows dim t : Int) (w : World) (hr : 0 ≤ rows ∧ rows ≤ 512) (hd : 1 ≤ dim ∧ dim ≤ 64) (hn : 0 ≤ n ∧ n ≤ 64) (ht : 0 ≤ t ∧ t ≤ 4) :
    Calls Try.prog 44 #[Wy k n p c rows dim, .int .i64 t] w fun e w' => e = .returned (.int .i64 (dim * min rows (t * n * digV rows))) ∧ Gb w w' := by
  have hL := fun W => len_c rows W hr.1 hr.2
  have hg := digV_bd hr.1 hr.2
  generalize digV rows = g at *
  have b1 := prod_bd ht.1 ht.2 hn.1 hn.2
  have b2 := prod_bd b1.1 b1.2 hg.1 hg.2
  have b3 := prod_bd (a := dim) (b := min rows (t * n * g)) (A := 64) (B := 512) (by omega) hd.2 (by omega) (by omega)
  obtain ⟨r1, r2⟩ := hr
  obtain ⟨p1, p2⟩ := b1
  obtain ⟨p3, p4⟩ := b2
  obtain ⟨p5, p6⟩ := b3
  clear hg hd hn ht
  go_enter Try.func44, Try.ntmps44
  go_wp2_with (go_at_call 46; refine (hL _).mono ?_; rintro e w' ⟨rfl, rfl⟩)
  go_ret
  exact ⟨rfl, gb_alloc (Below.refl _ _) _⟩
theorem kd_c (k n p c rows dim : Int) (w : World) (hr : 0 ≤ rows ∧ rows ≤ 512) (hd : 1 ≤ dim ∧ dim ≤ 64) (hn : 0 ≤ n ∧ n ≤ 64) :
    Calls Try.prog 36 #[Wy k n p c rows dim] w fun e w' => e = .returned (.int .i64 (dim * min rows (2 * n * digV rows))) ∧ Gb w w' := by
  have hL := fun W => halved_c k n p c rows dim 2 W hr hd hn (by omega)
  generalize dim * min rows (2 * n * digV rows) = r at *
  go_enter Try.func36, Try.ntmps36
  go_wp2_with (go_at_call 44; refine (hL _).mono ?_; rintro e w' ⟨rfl, g⟩)
  go_ret
  exact ⟨rfl, gb_trans (gb_alloc (Below.refl _ _) _) g⟩
theorem vp_c (k n p c rows dim : Int) (w : World) (hr : 0 ≤ rows ∧ rows ≤ 512) (hd : 1 ≤ dim ∧ dim ≤ 64) (hn : 0 ≤ n ∧ n ≤ 64) :
    Calls Try.prog 37 #[Wy k n p c rows dim] w fun e w' => e = .returned (.int .i64 (dim * min rows (3 * n * digV rows))) ∧ Gb w w' := by
  have hL := fun W => halved_c k n p c rows dim 3 W hr hd hn (by omega)
  generalize dim * min rows (3 * n * digV rows) = r at *
  go_enter Try.func37, Try.ntmps37
  go_wp2_with (go_at_call 44; refine (hL _).mono ?_; rintro e w' ⟨rfl, g⟩)
  go_ret
  exact ⟨rfl, gb_trans (gb_alloc (Below.refl _ _) _) g⟩
theorem hnsw_c (k n p c rows dim : Int) (w : World) (hr : 0 ≤ rows ∧ rows ≤ 512) (hd : 1 ≤ dim ∧ dim ≤ 64) (hn : 0 ≤ n ∧ n ≤ 64) :
    Calls Try.prog 40 #[Wy k n p c rows dim] w fun e w' => e = .returned (.int .i64 (dim * min rows (4 * n * digV rows))) ∧ Gb w w' := by
  have hL := fun W => halved_c k n p c rows dim 4 W hr hd hn (by omega)
  generalize dim * min rows (4 * n * digV rows) = r at *
  go_enter Try.func40, Try.ntmps40
  go_wp2_with (go_at_call 44; refine (hL _).mono ?_; rintro e w' ⟨rfl, g⟩)
  go_ret
  exact ⟨rfl, gb_trans (gb_alloc (Below.refl _ _) _) g⟩
theorem flat_c (k n p c rows dim : Int) (w : World) (hr : 0 ≤ rows ∧ rows ≤ 512) (hd : 1 ≤ dim ∧ dim ≤ 64) :
    Calls Try.prog 41 #[Wy k n p c rows dim] w fun e w' => e = .returned (.int .i64 (dim * rows)) ∧ Gb w w' := by
  obtain ⟨p1, p2⟩ := prod_bd (a := dim) (b := rows) (A := 64) (B := 512) (by omega) hd.2 hr.1 hr.2
  go_enter Try.func41, Try.ntmps41
  go_wp2
  go_ret
  exact ⟨rfl, gb_alloc (Below.refl _ _) _⟩
set_option maxHeartbeats 1000000 in
theorem ivf_c (k n p c rows dim : Int) (w : World) (hr : 0 ≤ rows ∧ rows ≤ 512) (hd : 1 ≤ dim ∧ dim ≤ 64) (hn : 1 ≤ n ∧ n ≤ 64) :
    Calls Try.prog 38 #[Wy k n p c rows dim] w fun e w' => e = .returned (.int .i64 (dim * (n + upV (2 * rows) n))) ∧ Gb w w' := by
  have hL := fun W => div_c (2 * rows) n W (by omega) (by omega) hn.1 (by omega)
  have hu := upV_bd (a := 2 * rows) (by omega) hn.1
  generalize upV (2 * rows) n = u at *
  obtain ⟨p1, p2⟩ := prod_bd (a := dim) (b := n + u) (A := 64) (B := 2000) (by omega) hd.2 (by omega) (by omega)
  go_enter Try.func38, Try.ntmps38
  go_wp2_with fail
  go_quiet (first | (go_at_call 45; exact Calls.quiet_of_same (hL _)))
  go_wp2
  go_ret
  exact ⟨rfl, below_drewN (gb_alloc (Below.refl _ _) _) _⟩
set_option maxHeartbeats 1000000 in
theorem pq_c (k n p c rows dim : Int) (w : World) (hr : 0 ≤ rows ∧ rows ≤ 512) (hd : 1 ≤ dim ∧ dim ≤ 64) (hn : 1 ≤ n ∧ n ≤ 64) (hp : 0 ≤ p ∧ p ≤ 8) (hc : 0 ≤ c ∧ c ≤ 16) :
    Calls Try.prog 39 #[Wy k n p c rows dim] w fun e w' => e = .returned (.int .i64 (dim * (n + c + 16) + p * upV rows n)) ∧ Gb w w' := by
  have hL := fun W => div_c rows n W (by omega) (by omega) hn.1 (by omega)
  have hu := upV_bd (a := rows) (by omega) hn.1
  generalize upV rows n = u at *
  obtain ⟨p1, p2⟩ := prod_bd (a := dim) (b := n + c + 16) (A := 64) (B := 100) (by omega) hd.2 (by omega) (by omega)
  obtain ⟨p3, p4⟩ := prod_bd (a := p) (b := u) (A := 8) (B := 512) (by omega) hp.2 (by omega) (by omega)
  go_enter Try.func39, Try.ntmps39
  go_wp2_with fail
  go_quiet (first | (go_at_call 45; exact Calls.quiet_of_same (hL _)))
  go_wp2
  go_ret
  exact ⟨rfl, below_drewN (gb_alloc (Below.refl _ _) _) _⟩

/-- What a way costs. -/
def cstV (k n p c rows dim : Int) : Int :=
  if k = 2 then dim * min rows (2 * n * digV rows) else if k = 3 then dim * min rows (3 * n * digV rows) else if k = 4 then dim * (n + upV (2 * rows) n)
  else if k = 5 then dim * (n + c + 16) + p * upV rows n else if k = 6 then dim * min rows (4 * n * digV rows) else dim * rows
def cstE (k n p c rows dim : Int) : Int := if chkV k n p c = 0 then (if rows < 0 ∨ 512 < rows ∨ dim < 1 ∨ 64 < dim then 1 else 0) else chkV k n p c
def cstN (k n p c rows dim : Int) : Int := if cstE k n p c rows dim = 0 then cstV k n p c rows dim else 0
theorem isCount_c (rows : Int) (w : World) : Calls Try.prog 19 #[.int .i64 rows] w fun e w' => e = .returned (.bool (decide (0 ≤ rows) && decide (rows ≤ 512))) ∧ w' = w := by
  by_cases h : 0 ≤ rows
  · go_enter Try.func19, Try.ntmps19
    go_wp2
    go_ret
    exact ⟨by simp [h], rfl⟩
  · go_enter Try.func19, Try.ntmps19
    go_wp2
    go_ret
    exact ⟨by simp; omega, rfl⟩
def wayF (k : Int) : Nat := if k = 2 then 36 else if k = 3 then 37 else if k = 4 then 38 else if k = 5 then 39 else if k = 6 then 40 else 41
theorem costOf_c (k : Int) (w : World) : Calls Try.prog 20 #[.int .i64 k] w fun e w' => e = .returned (.func (.func (wayF k)) #[] #[]) ∧ w' = w := by
  by_cases h2 : k = 2
  · subst h2
    go_enter Try.func20, Try.ntmps20
    go_wp2
    go_ret
    exact ⟨rfl, rfl⟩
  by_cases h3 : k = 3
  · subst h3
    go_enter Try.func20, Try.ntmps20
    go_wp2
    go_ret
    exact ⟨rfl, rfl⟩
  by_cases h4 : k = 4
  · subst h4
    go_enter Try.func20, Try.ntmps20
    go_wp2
    go_ret
    exact ⟨rfl, rfl⟩
  by_cases h5 : k = 5
  · subst h5
    go_enter Try.func20, Try.ntmps20
    go_wp2
    go_ret
    exact ⟨rfl, rfl⟩
  by_cases h6 : k = 6
  · subst h6
    go_enter Try.func20, Try.ntmps20
    go_wp2
    go_ret
    exact ⟨rfl, rfl⟩
  have e : Hid (wayF k = 41) := by unfold Hid; simp [wayF, h2, h3, h4, h5, h6]
  have b2 : (k == 2) = false := by simpa using h2
  have b3 : (k == 3) = false := by simpa using h3
  have b4 : (k == 4) = false := by simpa using h4
  have b5 : (k == 5) = false := by simpa using h5
  have b6 : (k == 6) = false := by simpa using h6
  go_enter Try.func20, Try.ntmps20
  go_wp2
  go_ret
  rw [e.out]
  exact ⟨rfl, rfl⟩
/-- What a kind's numbers are, when Check lets them pass. -/
theorem chk_bd {k n p c : Int} (h : chkV k n p c = 0) : (1 ≤ k ∧ k ≤ 6) ∧ (0 ≤ n ∧ n ≤ 64) ∧ (k ≠ 1 → 1 ≤ n) ∧ (0 ≤ p ∧ p ≤ 8) ∧ (0 ≤ c ∧ c ≤ 16) := by
  unfold chkV at h
  split at h <;> (try split at h) <;> (try split at h) <;> (try split at h) <;> (try split at h) <;> omega
/-- The way of a kind, called by its number. -/
theorem way_c (k n p c rows dim : Int) (w : World) (h : chkV k n p c = 0) (hr : 0 ≤ rows ∧ rows ≤ 512) (hd : 1 ≤ dim ∧ dim ≤ 64) :
    Calls Try.prog (wayF k) #[Wy k n p c rows dim] w fun e w' => e = .returned (.int .i64 (cstV k n p c rows dim)) ∧ Gb w w' := by
  obtain ⟨hk, hn, hn1, hp, hc⟩ := chk_bd h
  clear h
  by_cases h2 : k = 2
  · subst h2; exact kd_c 2 n p c rows dim w hr hd hn
  by_cases h3 : k = 3
  · subst h3; exact vp_c 3 n p c rows dim w hr hd hn
  by_cases h4 : k = 4
  · subst h4; exact ivf_c 4 n p c rows dim w hr hd ⟨hn1 (by omega), hn.2⟩
  by_cases h5 : k = 5
  · subst h5; exact pq_c 5 n p c rows dim w hr hd ⟨hn1 (by omega), hn.2⟩ hp hc
  by_cases h6 : k = 6
  · subst h6; exact hnsw_c 6 n p c rows dim w hr hd hn
  have e : wayF k = 41 := by simp [wayF, h2, h3, h4, h5, h6]
  have e' : cstV k n p c rows dim = dim * rows := by simp [cstV, h2, h3, h4, h5, h6]
  rw [e, e']
  exact flat_c k n p c rows dim w hr hd
theorem wayF_is (k : Int) : wayF k = 36 ∨ wayF k = 37 ∨ wayF k = 38 ∨ wayF k = 39 ∨ wayF k = 40 ∨ wayF k = 41 := by
  unfold wayF
  repeat' split
  all_goals simp
set_option maxHeartbeats 4000000 in
/-- P15.1. -/
theorem cost_c (k n p c rows dim : Int) (w : World) :
    Calls Try.prog 7 #[Sp k n p c, .int .i64 rows, .int .i64 dim] w fun e w' => e = .returned (.tuple #[.int .i64 (cstN k n p c rows dim), .int .i64 (cstE k n p c rows dim)]) ∧ Gb w w' := by
  have hC := fun W => fchk_c k n p c W
  have hI := fun W => isCount_c rows W
  by_cases h0 : chkV k n p c = 0
  · by_cases h1 : 0 ≤ rows ∧ rows ≤ 512
    · by_cases h2 : 1 ≤ dim ∧ dim ≤ 64
      · have e : cstE k n p c rows dim = 0 := by simp only [cstE, h0, if_true]; rw [if_neg (by omega)]
        have e' : cstN k n p c rows dim = cstV k n p c rows dim := by simp [cstN, e]
        rw [e, e']
        have hW := fun W => way_c k n p c rows dim W h0 h1 h2
        have hO := fun W => costOf_c k W
        rw [h0] at hC
        rw [show (decide (0 ≤ rows) && decide (rows ≤ 512)) = true by simp [h1.1, h1.2]] at hI
        have hf := wayF_is k
        generalize cstV k n p c rows dim = r at *
        generalize wayF k = f at *
        clear h0 e e' h1
        obtain ⟨d1, d2⟩ := h2
        rcases hf with rfl | rfl | rfl | rfl | rfl | rfl <;>
        · go_enter Try.func7, Try.ntmps7
          go_wp2_with first | (go_at_call 18; refine (hC _).mono ?_; rintro e w' ⟨rfl, rfl⟩) | (go_at_call 19; refine (hI _).mono ?_; rintro e w' ⟨rfl, rfl⟩) | (go_at_call 20; refine (hO _).mono ?_; rintro e w' ⟨rfl, rfl⟩) | (go_at_call 36; refine (hW _).mono ?_; rintro e w' ⟨rfl, g⟩) | (go_at_call 37; refine (hW _).mono ?_; rintro e w' ⟨rfl, g⟩) | (go_at_call 38; refine (hW _).mono ?_; rintro e w' ⟨rfl, g⟩) | (go_at_call 39; refine (hW _).mono ?_; rintro e w' ⟨rfl, g⟩) | (go_at_call 40; refine (hW _).mono ?_; rintro e w' ⟨rfl, g⟩) | (go_at_call 41; refine (hW _).mono ?_; rintro e w' ⟨rfl, g⟩)
          go_ret2
          exact ⟨rfl, gb_trans (gb_alloc (gb_alloc (Below.refl _ _) _) _) g⟩
      · have e : cstE k n p c rows dim = 1 := by simp only [cstE, h0, if_true]; rw [if_pos (by omega)]
        have e' : cstN k n p c rows dim = 0 := by simp [cstN, e]
        rw [e, e']
        rw [h0] at hC
        rw [show (decide (0 ≤ rows) && decide (rows ≤ 512)) = true by simp [h1.1, h1.2]] at hI
        clear h0 e e' h1
        by_cases d1 : dim < 1
        · clear h2
          go_enter Try.func7, Try.ntmps7
          go_wp2_with first | (go_at_call 18; refine (hC _).mono ?_; rintro e w' ⟨rfl, rfl⟩) | (go_at_call 19; refine (hI _).mono ?_; rintro e w' ⟨rfl, rfl⟩)
          go_ret2
          exact ⟨rfl, gb_alloc (gb_alloc (Below.refl _ _) _) _⟩
        · have d2 : 64 < dim := by omega
          clear h2
          go_enter Try.func7, Try.ntmps7
          go_wp2_with first | (go_at_call 18; refine (hC _).mono ?_; rintro e w' ⟨rfl, rfl⟩) | (go_at_call 19; refine (hI _).mono ?_; rintro e w' ⟨rfl, rfl⟩)
          go_ret2
          exact ⟨rfl, gb_alloc (gb_alloc (Below.refl _ _) _) _⟩
    · have e : cstE k n p c rows dim = 1 := by simp only [cstE, h0, if_true]; rw [if_pos (by omega)]
      have e' : cstN k n p c rows dim = 0 := by simp [cstN, e]
      rw [e, e']
      rw [h0] at hC
      rw [show (decide (0 ≤ rows) && decide (rows ≤ 512)) = false by simp; omega] at hI
      clear h0 e e' h1
      go_enter Try.func7, Try.ntmps7
      go_wp2_with first | (go_at_call 18; refine (hC _).mono ?_; rintro e w' ⟨rfl, rfl⟩) | (go_at_call 19; refine (hI _).mono ?_; rintro e w' ⟨rfl, rfl⟩)
      go_ret2
      exact ⟨rfl, gb_alloc (gb_alloc (Below.refl _ _) _) _⟩
  · have e : cstE k n p c rows dim = chkV k n p c := by simp [cstE, h0]
    have e' : cstN k n p c rows dim = 0 := by simp [cstN, e, h0]
    rw [e, e']
    have hb : (chkV k n p c != 0) = true := by simpa using h0
    clear e e' h0
    generalize chkV k n p c = z at *
    go_enter Try.func7, Try.ntmps7
    go_wp2_with first | (go_at_call 18; refine (hC _).mono ?_; rintro e w' ⟨rfl, rfl⟩) | (go_at_call 19; refine (hI _).mono ?_; rintro e w' ⟨rfl, rfl⟩)
    go_ret2
    exact ⟨rfl, gb_alloc (gb_alloc (Below.refl _ _) _) _⟩
end Go.Proofs.Ytgmjokmiifmckaa
