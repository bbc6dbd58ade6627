/- factory.most, fits, Check; the reference's within and Check (as stage 12's FB and FRn, under names of their own). -/
import Derived.Test.YtgmjokmiifmckaaInts
namespace Go.Proofs.Ytgmjokmiifmckaa
open Go.RowKit

abbrev N3 := Int × Int × Int
/-- P12.1. -/
def chkV (k n p c : Int) : Int :=
  if k < 1 ∨ 6 < k then 120
  else if k = 1 then (if n = 0 ∧ p = 0 ∧ c = 0 then 0 else 121)
  else if k = 2 ∨ k = 3 ∨ k = 4 then (if (1 ≤ n ∧ n ≤ 64) ∧ p = 0 ∧ c = 0 then 0 else 121)
  else if k = 5 then (if (1 ≤ n ∧ n ≤ 64) ∧ (1 ≤ p ∧ p ≤ 8) ∧ (1 ≤ c ∧ c ≤ 16) then 0 else 121)
  else (if (1 ≤ n ∧ n ≤ 16) ∧ p = 0 ∧ c = 0 then 0 else 121)


/-- A spec as the program's struct. -/
abbrev Sp (k n p c : Int) : Value := .agg #[.int .i64 k, .int .i64 n, .int .i64 p, .int .i64 c]
/-- The greatest numbers of a kind. -/
def mostV (k : Int) : N3 := if k = 2 ∨ k = 3 ∨ k = 4 then (64, 0, 0) else if k = 5 then (64, 8, 16) else if k = 6 then (16, 0, 0) else (0, 0, 0)
def fitsV (n m : Int) : Bool := decide ((if m < 1 then m else 1) ≤ n) && decide (n ≤ m)

theorem most_c (k : Int) (w : World) : Calls Try.prog 34 #[.int .i64 k] w fun e w' => e = .returned (.tuple #[.int .i64 (mostV k).1, .int .i64 (mostV k).2.1, .int .i64 (mostV k).2.2]) ∧ w' = w := by
  by_cases h2 : k = 2
  · subst h2
    go_enter Try.func34, Try.ntmps34
    go_wp2
    go_ret3
    exact ⟨rfl, rfl⟩
  by_cases h3 : k = 3
  · subst h3
    go_enter Try.func34, Try.ntmps34
    go_wp2
    go_ret3
    exact ⟨rfl, rfl⟩
  by_cases h4 : k = 4
  · subst h4
    go_enter Try.func34, Try.ntmps34
    go_wp2
    go_ret3
    exact ⟨rfl, rfl⟩
  by_cases h5 : k = 5
  · subst h5
    go_enter Try.func34, Try.ntmps34
    go_wp2
    go_ret3
    exact ⟨rfl, rfl⟩
  by_cases h6 : k = 6
  · subst h6
    go_enter Try.func34, Try.ntmps34
    go_wp2
    go_ret3
    exact ⟨rfl, rfl⟩
  have e : Hid (mostV k = (0, 0, 0)) := by unfold Hid; simp [mostV, h2, h3, h4, h5, h6]
  have b2 : (k == 2) = false := by simpa using h2
  have b3 : (k == 3) = false := by simpa using h3
  have b4 : (k == 4) = false := by simpa using h4
  have b5 : (k == 5) = false := by simpa using h5
  have b6 : (k == 6) = false := by simpa using h6
  go_enter Try.func34, Try.ntmps34
  go_wp2
  go_ret3
  rw [e.out]
  exact ⟨rfl, rfl⟩
theorem fits_c (n m : Int) (w : World) : Calls Try.prog 35 #[.int .i64 n, .int .i64 m] w fun e w' => e = .returned (.bool (fitsV n m)) ∧ w' = w := by
  by_cases h1 : m < 1
  · by_cases h2 : m ≤ n
    · by_cases h3 : n ≤ m
      · have e : Hid (fitsV n m = true) := by unfold Hid; simp [fitsV, h1, h2, h3]
        go_enter Try.func35, Try.ntmps35
        go_wp2
        go_ret
        rw [e.out]; exact ⟨rfl, rfl⟩
      · have e : Hid (fitsV n m = false) := by unfold Hid; simp [fitsV, h3]
        go_enter Try.func35, Try.ntmps35
        go_wp2
        go_ret
        rw [e.out]; exact ⟨rfl, rfl⟩
    · have e : Hid (fitsV n m = false) := by unfold Hid; simp [fitsV, h1, h2]
      go_enter Try.func35, Try.ntmps35
      go_wp2
      go_ret
      rw [e.out]; exact ⟨rfl, rfl⟩
  · by_cases h2 : 1 ≤ n
    · by_cases h3 : n ≤ m
      · have e : Hid (fitsV n m = true) := by unfold Hid; simp [fitsV, h1, h2, h3]
        go_enter Try.func35, Try.ntmps35
        go_wp2
        go_ret
        rw [e.out]; exact ⟨rfl, rfl⟩
      · have e : Hid (fitsV n m = false) := by unfold Hid; simp [fitsV, h3]
        go_enter Try.func35, Try.ntmps35
        go_wp2
        go_ret
        rw [e.out]; exact ⟨rfl, rfl⟩
    · have e : Hid (fitsV n m = false) := by unfold Hid; simp [fitsV, h1, h2]
      go_enter Try.func35, Try.ntmps35
      go_wp2
      go_ret
      rw [e.out]; exact ⟨rfl, rfl⟩
theorem within_c (n m : Int) (w : World) : Calls Try.prog 42 #[.int .i64 n, .int .i64 m] w fun e w' => e = .returned (.bool (decide (1 ≤ n) && decide (n ≤ m))) ∧ w' = w := by
  by_cases h2 : 1 ≤ n
  · by_cases h3 : n ≤ m
    · go_enter Try.func42, Try.ntmps42
      go_wp2
      go_ret
      simp [h2, h3]
    · go_enter Try.func42, Try.ntmps42
      go_wp2
      go_ret
      simp [h3]
  · go_enter Try.func42, Try.ntmps42
    go_wp2
    go_ret
    have e : decide (1 ≤ n) = false := by simpa using h2
    rw [e]; exact ⟨rfl, rfl⟩

theorem chk_fits {k n p c : Int} (h1 : ¬ k < 1) (h2 : ¬ 6 < k) : chkV k n p c = if (fitsV n (mostV k).1 && fitsV p (mostV k).2.1 && fitsV c (mostV k).2.2) = true then 0 else 121 := by
  have hc : k = 1 ∨ k = 2 ∨ k = 3 ∨ k = 4 ∨ k = 5 ∨ k = 6 := by omega
  have z : ∀ x : Int, fitsV x 0 = true ↔ x = 0 := fun x => by simp [fitsV]; omega
  have g : ∀ x m : Int, 1 ≤ m → (fitsV x m = true ↔ 1 ≤ x ∧ x ≤ m) := fun x m hm => by
    have : ¬ m < 1 := by omega
    simp [fitsV, this]
  rcases hc with rfl | rfl | rfl | rfl | rfl | rfl <;> simp [chkV, mostV, z, g] <;> (congr 1; simp only [eq_iff_iff]; omega)

set_option maxHeartbeats 1000000 in
/-- P12.1. -/
theorem fchk_c (k n p c : Int) (w : World) : Calls Try.prog 18 #[Sp k n p c] w fun e w' => e = .returned (.int .i64 (chkV k n p c)) ∧ w' = w.alloc (.cells #[.int .i64 k, .int .i64 n, .int .i64 p, .int .i64 c] 24) := by
  by_cases h1 : k < 1
  · have e : Hid (chkV k n p c = 120) := by unfold Hid; simp [chkV, h1]
    go_enter Try.func18, Try.ntmps18
    go_wp2
    go_ret
    rw [e.out]; exact ⟨rfl, rfl⟩
  by_cases h2 : 6 < k
  · have e : Hid (chkV k n p c = 120) := by unfold Hid; simp [chkV, h2]
    go_enter Try.func18, Try.ntmps18
    go_wp2
    go_ret
    rw [e.out]; exact ⟨rfl, rfl⟩
  have E : chkV k n p c = if (fitsV n (mostV k).1 && fitsV p (mostV k).2.1 && fitsV c (mostV k).2.2) = true then 0 else 121 := chk_fits h1 h2
  have M := most_c k (w.alloc (.cells #[.int .i64 k, .int .i64 n, .int .i64 p, .int .i64 c] 24))
  generalize mostV k = m at *
  obtain ⟨m1, m2, m3⟩ := m
  simp only at E M
  have A1 := fits_c n m1 (w.alloc (.cells #[.int .i64 k, .int .i64 n, .int .i64 p, .int .i64 c] 24))
  have A2 := fits_c p m2 (w.alloc (.cells #[.int .i64 k, .int .i64 n, .int .i64 p, .int .i64 c] 24))
  have A3 := fits_c c m3 (w.alloc (.cells #[.int .i64 k, .int .i64 n, .int .i64 p, .int .i64 c] 24))
  generalize chkV k n p c = z at *
  generalize fitsV n m1 = f1 at *
  generalize fitsV p m2 = f2 at *
  generalize fitsV c m3 = f3 at *
  cases f1 with
  | false =>
    obtain rfl : z = 121 := by simpa using E
    clear E
    go_enter Try.func18, Try.ntmps18
    go_wp2_with fail
    refine M.mono ?_
    rintro e w' ⟨rfl, rfl⟩
    go_wp2_with fail
    refine A1.mono ?_
    rintro e w' ⟨rfl, rfl⟩
    go_wp2
    go_ret
    exact ⟨rfl, rfl⟩
  | true =>
    cases f2 with
    | false =>
      obtain rfl : z = 121 := by simpa using E
      clear E
      go_enter Try.func18, Try.ntmps18
      go_wp2_with fail
      refine M.mono ?_
      rintro e w' ⟨rfl, rfl⟩
      go_wp2_with fail
      refine A1.mono ?_
      rintro e w' ⟨rfl, rfl⟩
      go_wp2_with fail
      refine A2.mono ?_
      rintro e w' ⟨rfl, rfl⟩
      go_wp2
      go_ret
      exact ⟨rfl, rfl⟩
    | true =>
      obtain rfl : z = if f3 = true then 0 else 121 := by simpa using E
      clear E
      cases f3 <;>
      · go_enter Try.func18, Try.ntmps18
        go_wp2_with fail
        refine M.mono ?_
        rintro e w' ⟨rfl, rfl⟩
        go_wp2_with fail
        refine A1.mono ?_
        rintro e w' ⟨rfl, rfl⟩
        go_wp2_with fail
        refine A2.mono ?_
        rintro e w' ⟨rfl, rfl⟩
        go_wp2_with fail
        refine A3.mono ?_
        rintro e w' ⟨rfl, rfl⟩
        go_wp2
        go_ret
        exact ⟨rfl, rfl⟩




abbrev bxW (k n p c : Int) (w : World) : World := w.alloc (.cells #[.int .i64 k, .int .i64 n, .int .i64 p, .int .i64 c] 24)
theorem win {n m : Int} : (decide (1 ≤ n) && decide (n ≤ m)) = true ↔ 1 ≤ n ∧ n ≤ m := by simp

set_option maxHeartbeats 2000000 in
theorem rfchk_c (k n p c : Int) (w : World) : Calls Try.prog 21 #[Sp k n p c] w fun e w' => e = .returned (.int .i64 (chkV k n p c)) ∧ w' = bxW k n p c w := by
  have kc : k = 1 ∨ k = 2 ∨ k = 3 ∨ k = 4 ∨ k = 5 ∨ k = 6 ∨ (k < 1 ∨ 6 < k) := by omega
  have W := fun m => within_c n m (bxW k n p c w)
  have Wp := within_c p 8 (bxW k n p c w)
  have Wc := within_c c 16 (bxW k n p c w)
  rcases kc with rfl | rfl | rfl | rfl | rfl | rfl | hk
  · have E0 : chkV 1 n p c = if ((n == 0) && ((p == 0) && (c == 0))) = true then 0 else 121 := by simp [chkV]
    clear W Wp Wc
    cases hp : (p == 0) with
    | false =>
      cases hn : (n == 0) with
      | false =>
        have E : Hid (chkV 1 n p c = 121) := by unfold Hid; rw [E0, hn, hp]; rfl
        clear E0
        go_enter Try.func21, Try.ntmps21
        go_wp2
        go_ret
        exact ⟨by rw [E.out]; rfl, rfl⟩
      | true =>
        have E : Hid (chkV 1 n p c = 121) := by unfold Hid; rw [E0, hn, hp]; rfl
        clear E0
        go_enter Try.func21, Try.ntmps21
        go_wp2
        go_ret
        exact ⟨by rw [E.out]; rfl, rfl⟩
    | true =>
      cases hc : (c == 0) with
      | false =>
        cases hn : (n == 0) with
        | false =>
          have E : Hid (chkV 1 n p c = 121) := by unfold Hid; rw [E0, hn, hp, hc]; rfl
          clear E0
          go_enter Try.func21, Try.ntmps21
          go_wp2
          go_ret
          exact ⟨by rw [E.out]; rfl, rfl⟩
        | true =>
          have E : Hid (chkV 1 n p c = 121) := by unfold Hid; rw [E0, hn, hp, hc]; rfl
          clear E0
          go_enter Try.func21, Try.ntmps21
          go_wp2
          go_ret
          exact ⟨by rw [E.out]; rfl, rfl⟩
      | true =>
        cases hn : (n == 0) with
        | false =>
          have E : Hid (chkV 1 n p c = 121) := by unfold Hid; rw [E0, hn, hp, hc]; rfl
          clear E0
          go_enter Try.func21, Try.ntmps21
          go_wp2
          go_ret
          exact ⟨by rw [E.out]; rfl, rfl⟩
        | true =>
          have E : Hid (chkV 1 n p c = 0) := by unfold Hid; rw [E0, hn, hp, hc]; rfl
          clear E0
          go_enter Try.func21, Try.ntmps21
          go_wp2
          go_ret
          exact ⟨by rw [E.out]; rfl, rfl⟩
  · have E0 : chkV 2 n p c = if ((decide (1 ≤ n) && decide (n ≤ 64)) && ((p == 0) && (c == 0))) = true then 0 else 121 := by simp [chkV, and_assoc]
    have W1 := W 64
    generalize (decide (1 ≤ n) && decide (n ≤ 64)) = f1 at *
    clear W Wp Wc
    cases hp : (p == 0) with
    | false =>
      cases f1 with
      | false =>
        have E : Hid (chkV 2 n p c = 121) := by unfold Hid; rw [E0, hp]; rfl
        clear E0
        go_enter Try.func21, Try.ntmps21
        go_wp2_with fail
        refine (W1).mono ?_
        rintro e w' ⟨rfl, rfl⟩
        go_wp2
        go_ret
        exact ⟨by rw [E.out]; rfl, rfl⟩
      | true =>
        have E : Hid (chkV 2 n p c = 121) := by unfold Hid; rw [E0, hp]; rfl
        clear E0
        go_enter Try.func21, Try.ntmps21
        go_wp2_with fail
        refine (W1).mono ?_
        rintro e w' ⟨rfl, rfl⟩
        go_wp2
        go_ret
        exact ⟨by rw [E.out]; rfl, rfl⟩
    | true =>
      cases hc : (c == 0) with
      | false =>
        cases f1 with
        | false =>
          have E : Hid (chkV 2 n p c = 121) := by unfold Hid; rw [E0, hp, hc]; rfl
          clear E0
          go_enter Try.func21, Try.ntmps21
          go_wp2_with fail
          refine (W1).mono ?_
          rintro e w' ⟨rfl, rfl⟩
          go_wp2
          go_ret
          exact ⟨by rw [E.out]; rfl, rfl⟩
        | true =>
          have E : Hid (chkV 2 n p c = 121) := by unfold Hid; rw [E0, hp, hc]; rfl
          clear E0
          go_enter Try.func21, Try.ntmps21
          go_wp2_with fail
          refine (W1).mono ?_
          rintro e w' ⟨rfl, rfl⟩
          go_wp2
          go_ret
          exact ⟨by rw [E.out]; rfl, rfl⟩
      | true =>
        cases f1 with
        | false =>
          have E : Hid (chkV 2 n p c = 121) := by unfold Hid; rw [E0, hp, hc]; rfl
          clear E0
          go_enter Try.func21, Try.ntmps21
          go_wp2_with fail
          refine (W1).mono ?_
          rintro e w' ⟨rfl, rfl⟩
          go_wp2
          go_ret
          exact ⟨by rw [E.out]; rfl, rfl⟩
        | true =>
          have E : Hid (chkV 2 n p c = 0) := by unfold Hid; rw [E0, hp, hc]; rfl
          clear E0
          go_enter Try.func21, Try.ntmps21
          go_wp2_with fail
          refine (W1).mono ?_
          rintro e w' ⟨rfl, rfl⟩
          go_wp2
          go_ret
          exact ⟨by rw [E.out]; rfl, rfl⟩
  · have E0 : chkV 3 n p c = if ((decide (1 ≤ n) && decide (n ≤ 64)) && ((p == 0) && (c == 0))) = true then 0 else 121 := by simp [chkV, and_assoc]
    have W1 := W 64
    generalize (decide (1 ≤ n) && decide (n ≤ 64)) = f1 at *
    clear W Wp Wc
    cases hp : (p == 0) with
    | false =>
      cases f1 with
      | false =>
        have E : Hid (chkV 3 n p c = 121) := by unfold Hid; rw [E0, hp]; rfl
        clear E0
        go_enter Try.func21, Try.ntmps21
        go_wp2_with fail
        refine (W1).mono ?_
        rintro e w' ⟨rfl, rfl⟩
        go_wp2
        go_ret
        exact ⟨by rw [E.out]; rfl, rfl⟩
      | true =>
        have E : Hid (chkV 3 n p c = 121) := by unfold Hid; rw [E0, hp]; rfl
        clear E0
        go_enter Try.func21, Try.ntmps21
        go_wp2_with fail
        refine (W1).mono ?_
        rintro e w' ⟨rfl, rfl⟩
        go_wp2
        go_ret
        exact ⟨by rw [E.out]; rfl, rfl⟩
    | true =>
      cases hc : (c == 0) with
      | false =>
        cases f1 with
        | false =>
          have E : Hid (chkV 3 n p c = 121) := by unfold Hid; rw [E0, hp, hc]; rfl
          clear E0
          go_enter Try.func21, Try.ntmps21
          go_wp2_with fail
          refine (W1).mono ?_
          rintro e w' ⟨rfl, rfl⟩
          go_wp2
          go_ret
          exact ⟨by rw [E.out]; rfl, rfl⟩
        | true =>
          have E : Hid (chkV 3 n p c = 121) := by unfold Hid; rw [E0, hp, hc]; rfl
          clear E0
          go_enter Try.func21, Try.ntmps21
          go_wp2_with fail
          refine (W1).mono ?_
          rintro e w' ⟨rfl, rfl⟩
          go_wp2
          go_ret
          exact ⟨by rw [E.out]; rfl, rfl⟩
      | true =>
        cases f1 with
        | false =>
          have E : Hid (chkV 3 n p c = 121) := by unfold Hid; rw [E0, hp, hc]; rfl
          clear E0
          go_enter Try.func21, Try.ntmps21
          go_wp2_with fail
          refine (W1).mono ?_
          rintro e w' ⟨rfl, rfl⟩
          go_wp2
          go_ret
          exact ⟨by rw [E.out]; rfl, rfl⟩
        | true =>
          have E : Hid (chkV 3 n p c = 0) := by unfold Hid; rw [E0, hp, hc]; rfl
          clear E0
          go_enter Try.func21, Try.ntmps21
          go_wp2_with fail
          refine (W1).mono ?_
          rintro e w' ⟨rfl, rfl⟩
          go_wp2
          go_ret
          exact ⟨by rw [E.out]; rfl, rfl⟩
  · have E0 : chkV 4 n p c = if ((decide (1 ≤ n) && decide (n ≤ 64)) && ((p == 0) && (c == 0))) = true then 0 else 121 := by simp [chkV, and_assoc]
    have W1 := W 64
    generalize (decide (1 ≤ n) && decide (n ≤ 64)) = f1 at *
    clear W Wp Wc
    cases hp : (p == 0) with
    | false =>
      cases f1 with
      | false =>
        have E : Hid (chkV 4 n p c = 121) := by unfold Hid; rw [E0, hp]; rfl
        clear E0
        go_enter Try.func21, Try.ntmps21
        go_wp2_with fail
        refine (W1).mono ?_
        rintro e w' ⟨rfl, rfl⟩
        go_wp2
        go_ret
        exact ⟨by rw [E.out]; rfl, rfl⟩
      | true =>
        have E : Hid (chkV 4 n p c = 121) := by unfold Hid; rw [E0, hp]; rfl
        clear E0
        go_enter Try.func21, Try.ntmps21
        go_wp2_with fail
        refine (W1).mono ?_
        rintro e w' ⟨rfl, rfl⟩
        go_wp2
        go_ret
        exact ⟨by rw [E.out]; rfl, rfl⟩
    | true =>
      cases hc : (c == 0) with
      | false =>
        cases f1 with
        | false =>
          have E : Hid (chkV 4 n p c = 121) := by unfold Hid; rw [E0, hp, hc]; rfl
          clear E0
          go_enter Try.func21, Try.ntmps21
          go_wp2_with fail
          refine (W1).mono ?_
          rintro e w' ⟨rfl, rfl⟩
          go_wp2
          go_ret
          exact ⟨by rw [E.out]; rfl, rfl⟩
        | true =>
          have E : Hid (chkV 4 n p c = 121) := by unfold Hid; rw [E0, hp, hc]; rfl
          clear E0
          go_enter Try.func21, Try.ntmps21
          go_wp2_with fail
          refine (W1).mono ?_
          rintro e w' ⟨rfl, rfl⟩
          go_wp2
          go_ret
          exact ⟨by rw [E.out]; rfl, rfl⟩
      | true =>
        cases f1 with
        | false =>
          have E : Hid (chkV 4 n p c = 121) := by unfold Hid; rw [E0, hp, hc]; rfl
          clear E0
          go_enter Try.func21, Try.ntmps21
          go_wp2_with fail
          refine (W1).mono ?_
          rintro e w' ⟨rfl, rfl⟩
          go_wp2
          go_ret
          exact ⟨by rw [E.out]; rfl, rfl⟩
        | true =>
          have E : Hid (chkV 4 n p c = 0) := by unfold Hid; rw [E0, hp, hc]; rfl
          clear E0
          go_enter Try.func21, Try.ntmps21
          go_wp2_with fail
          refine (W1).mono ?_
          rintro e w' ⟨rfl, rfl⟩
          go_wp2
          go_ret
          exact ⟨by rw [E.out]; rfl, rfl⟩
  · have E0 : chkV 5 n p c = if ((decide (1 ≤ n) && decide (n ≤ 64)) && (decide (1 ≤ p) && decide (p ≤ 8)) && (decide (1 ≤ c) && decide (c ≤ 16))) = true then 0 else 121 := by simp [chkV, Bool.and_eq_true, and_assoc]
    have W1 := W 64
    generalize (decide (1 ≤ n) && decide (n ≤ 64)) = f1 at *
    generalize (decide (1 ≤ p) && decide (p ≤ 8)) = f2 at *
    generalize (decide (1 ≤ c) && decide (c ≤ 16)) = f3 at *
    have E : Hid (chkV 5 n p c = if (f1 && f2 && f3) = true then 0 else 121) := E0
    clear E0 W
    have hr : (p == 0) = true ∨ (p == 0) = false := by cases (p == 0) <;> simp
    have hr2 : (c == 0) = true ∨ (c == 0) = false := by cases (c == 0) <;> simp
    rcases hr with hr | hr <;> rcases hr2 with hr2 | hr2
    · cases f1 with
      | false =>
        go_enter Try.func21, Try.ntmps21
        go_wp2_with fail
        refine (W1).mono ?_
        rintro e w' ⟨rfl, rfl⟩
        go_wp2
        go_ret
        exact ⟨by rw [E.out]; rfl, rfl⟩
      | true =>
        cases f2 with
        | false =>
          go_enter Try.func21, Try.ntmps21
          go_wp2_with fail
          refine (W1).mono ?_
          rintro e w' ⟨rfl, rfl⟩
          go_wp2_with fail
          refine (Wp).mono ?_
          rintro e w' ⟨rfl, rfl⟩
          go_wp2
          go_ret
          exact ⟨by rw [E.out]; rfl, rfl⟩
        | true =>
          cases f3 <;>
          · go_enter Try.func21, Try.ntmps21
            go_wp2_with fail
            refine (W1).mono ?_
            rintro e w' ⟨rfl, rfl⟩
            go_wp2_with fail
            refine (Wp).mono ?_
            rintro e w' ⟨rfl, rfl⟩
            go_wp2_with fail
            refine (Wc).mono ?_
            rintro e w' ⟨rfl, rfl⟩
            go_wp2
            go_ret
            exact ⟨by rw [E.out]; rfl, rfl⟩
    · cases f1 with
      | false =>
        go_enter Try.func21, Try.ntmps21
        go_wp2_with fail
        refine (W1).mono ?_
        rintro e w' ⟨rfl, rfl⟩
        go_wp2
        go_ret
        exact ⟨by rw [E.out]; rfl, rfl⟩
      | true =>
        cases f2 with
        | false =>
          go_enter Try.func21, Try.ntmps21
          go_wp2_with fail
          refine (W1).mono ?_
          rintro e w' ⟨rfl, rfl⟩
          go_wp2_with fail
          refine (Wp).mono ?_
          rintro e w' ⟨rfl, rfl⟩
          go_wp2
          go_ret
          exact ⟨by rw [E.out]; rfl, rfl⟩
        | true =>
          cases f3 <;>
          · go_enter Try.func21, Try.ntmps21
            go_wp2_with fail
            refine (W1).mono ?_
            rintro e w' ⟨rfl, rfl⟩
            go_wp2_with fail
            refine (Wp).mono ?_
            rintro e w' ⟨rfl, rfl⟩
            go_wp2_with fail
            refine (Wc).mono ?_
            rintro e w' ⟨rfl, rfl⟩
            go_wp2
            go_ret
            exact ⟨by rw [E.out]; rfl, rfl⟩
    · cases f1 with
      | false =>
        go_enter Try.func21, Try.ntmps21
        go_wp2_with fail
        refine (W1).mono ?_
        rintro e w' ⟨rfl, rfl⟩
        go_wp2
        go_ret
        exact ⟨by rw [E.out]; rfl, rfl⟩
      | true =>
        cases f2 with
        | false =>
          go_enter Try.func21, Try.ntmps21
          go_wp2_with fail
          refine (W1).mono ?_
          rintro e w' ⟨rfl, rfl⟩
          go_wp2_with fail
          refine (Wp).mono ?_
          rintro e w' ⟨rfl, rfl⟩
          go_wp2
          go_ret
          exact ⟨by rw [E.out]; rfl, rfl⟩
        | true =>
          cases f3 <;>
          · go_enter Try.func21, Try.ntmps21
            go_wp2_with fail
            refine (W1).mono ?_
            rintro e w' ⟨rfl, rfl⟩
            go_wp2_with fail
            refine (Wp).mono ?_
            rintro e w' ⟨rfl, rfl⟩
            go_wp2_with fail
            refine (Wc).mono ?_
            rintro e w' ⟨rfl, rfl⟩
            go_wp2
            go_ret
            exact ⟨by rw [E.out]; rfl, rfl⟩
    · cases f1 with
      | false =>
        go_enter Try.func21, Try.ntmps21
        go_wp2_with fail
        refine (W1).mono ?_
        rintro e w' ⟨rfl, rfl⟩
        go_wp2
        go_ret
        exact ⟨by rw [E.out]; rfl, rfl⟩
      | true =>
        cases f2 with
        | false =>
          go_enter Try.func21, Try.ntmps21
          go_wp2_with fail
          refine (W1).mono ?_
          rintro e w' ⟨rfl, rfl⟩
          go_wp2_with fail
          refine (Wp).mono ?_
          rintro e w' ⟨rfl, rfl⟩
          go_wp2
          go_ret
          exact ⟨by rw [E.out]; rfl, rfl⟩
        | true =>
          cases f3 <;>
          · go_enter Try.func21, Try.ntmps21
            go_wp2_with fail
            refine (W1).mono ?_
            rintro e w' ⟨rfl, rfl⟩
            go_wp2_with fail
            refine (Wp).mono ?_
            rintro e w' ⟨rfl, rfl⟩
            go_wp2_with fail
            refine (Wc).mono ?_
            rintro e w' ⟨rfl, rfl⟩
            go_wp2
            go_ret
            exact ⟨by rw [E.out]; rfl, rfl⟩
  · have E0 : chkV 6 n p c = if ((decide (1 ≤ n) && decide (n ≤ 16)) && ((p == 0) && (c == 0))) = true then 0 else 121 := by simp [chkV, and_assoc]
    have W1 := W 16
    generalize (decide (1 ≤ n) && decide (n ≤ 16)) = f1 at *
    clear W Wp Wc
    cases hp : (p == 0) with
    | false =>
      cases f1 with
      | false =>
        have E : Hid (chkV 6 n p c = 121) := by unfold Hid; rw [E0, hp]; rfl
        clear E0
        go_enter Try.func21, Try.ntmps21
        go_wp2_with fail
        refine (W1).mono ?_
        rintro e w' ⟨rfl, rfl⟩
        go_wp2
        go_ret
        exact ⟨by rw [E.out]; rfl, rfl⟩
      | true =>
        have E : Hid (chkV 6 n p c = 121) := by unfold Hid; rw [E0, hp]; rfl
        clear E0
        go_enter Try.func21, Try.ntmps21
        go_wp2_with fail
        refine (W1).mono ?_
        rintro e w' ⟨rfl, rfl⟩
        go_wp2
        go_ret
        exact ⟨by rw [E.out]; rfl, rfl⟩
    | true =>
      cases hc : (c == 0) with
      | false =>
        cases f1 with
        | false =>
          have E : Hid (chkV 6 n p c = 121) := by unfold Hid; rw [E0, hp, hc]; rfl
          clear E0
          go_enter Try.func21, Try.ntmps21
          go_wp2_with fail
          refine (W1).mono ?_
          rintro e w' ⟨rfl, rfl⟩
          go_wp2
          go_ret
          exact ⟨by rw [E.out]; rfl, rfl⟩
        | true =>
          have E : Hid (chkV 6 n p c = 121) := by unfold Hid; rw [E0, hp, hc]; rfl
          clear E0
          go_enter Try.func21, Try.ntmps21
          go_wp2_with fail
          refine (W1).mono ?_
          rintro e w' ⟨rfl, rfl⟩
          go_wp2
          go_ret
          exact ⟨by rw [E.out]; rfl, rfl⟩
      | true =>
        cases f1 with
        | false =>
          have E : Hid (chkV 6 n p c = 121) := by unfold Hid; rw [E0, hp, hc]; rfl
          clear E0
          go_enter Try.func21, Try.ntmps21
          go_wp2_with fail
          refine (W1).mono ?_
          rintro e w' ⟨rfl, rfl⟩
          go_wp2
          go_ret
          exact ⟨by rw [E.out]; rfl, rfl⟩
        | true =>
          have E : Hid (chkV 6 n p c = 0) := by unfold Hid; rw [E0, hp, hc]; rfl
          clear E0
          go_enter Try.func21, Try.ntmps21
          go_wp2_with fail
          refine (W1).mono ?_
          rintro e w' ⟨rfl, rfl⟩
          go_wp2
          go_ret
          exact ⟨by rw [E.out]; rfl, rfl⟩
  · have E : Hid (chkV k n p c = 120) := by unfold Hid; rw [chkV, if_pos hk]
    have b1 : (k == 1) = false := by simp; omega
    have b2 : (k == 2) = false := by simp; omega
    have b3 : (k == 3) = false := by simp; omega
    have b4 : (k == 4) = false := by simp; omega
    have b5 : (k == 5) = false := by simp; omega
    have b6 : (k == 6) = false := by simp; omega
    clear W Wp Wc hk
    have hr : (p == 0) = true ∨ (p == 0) = false := by cases (p == 0) <;> simp
    rcases hr with hr | hr <;>
    · go_enter Try.func21, Try.ntmps21
      go_wp2
      go_ret
      exact ⟨by rw [E.out]; rfl, rfl⟩
end Go.Proofs.Ytgmjokmiifmckaa
