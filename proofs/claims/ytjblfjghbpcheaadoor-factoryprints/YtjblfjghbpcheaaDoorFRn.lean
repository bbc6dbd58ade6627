/- The reference's Check and Number. -/
import Derived.Test.YtjblfjghbpcheaaDoorFSpW
import Derived.LoopN
namespace Go.Proofs.YtjblfjghbpcheaaDoor
open Go.Shelf Go.RowKit

abbrev bxW (k n p c : Int) (w : World) : World := w.alloc (.cells #[.int .i64 k, .int .i64 n, .int .i64 p, .int .i64 c] 24)
theorem win {n m : Int} : (decide (1 ≤ n) && decide (n ≤ m)) = true ↔ 1 ≤ n ∧ n ≤ m := by simp

set_option maxHeartbeats 2000000 in
theorem rcheck_c (k n p c : Int) (w : World) : Calls Tryd.prog 12 #[Sp k n p c] w fun e w' => e = .returned (.int .i64 (chkV k n p c)) ∧ w' = bxW k n p c w := by
  have kc : k = 1 ∨ k = 2 ∨ k = 3 ∨ k = 4 ∨ k = 5 ∨ k = 6 ∨ (k < 1 ∨ 6 < k) := by omega
  have W := fun m => within_c n m (bxW k n p c w)
  have Wp := within_c p 8 (bxW k n p c w)
  have Wc := within_c c 16 (bxW k n p c w)
  rcases kc with rfl | rfl | rfl | rfl | rfl | rfl | hk
  · have E0 : chkV 1 n p c = if ((n == 0) && ((p == 0) && (c == 0))) = true then 0 else 121 := by simp [chkV]
    clear W Wp Wc
    cases hp : (p == 0) with
    | false =>
      cases hn : (n == 0) with
      | false =>
        have E : Hid (chkV 1 n p c = 121) := by unfold Hid; rw [E0, hn, hp]; rfl
        clear E0
        go_enter Tryd.func12, Tryd.ntmps12
        go_wp2
        go_ret
        exact ⟨by rw [E.out]; rfl, rfl⟩
      | true =>
        have E : Hid (chkV 1 n p c = 121) := by unfold Hid; rw [E0, hn, hp]; rfl
        clear E0
        go_enter Tryd.func12, Tryd.ntmps12
        go_wp2
        go_ret
        exact ⟨by rw [E.out]; rfl, rfl⟩
    | true =>
      cases hc : (c == 0) with
      | false =>
        cases hn : (n == 0) with
        | false =>
          have E : Hid (chkV 1 n p c = 121) := by unfold Hid; rw [E0, hn, hp, hc]; rfl
          clear E0
          go_enter Tryd.func12, Tryd.ntmps12
          go_wp2
          go_ret
          exact ⟨by rw [E.out]; rfl, rfl⟩
        | true =>
          have E : Hid (chkV 1 n p c = 121) := by unfold Hid; rw [E0, hn, hp, hc]; rfl
          clear E0
          go_enter Tryd.func12, Tryd.ntmps12
          go_wp2
          go_ret
          exact ⟨by rw [E.out]; rfl, rfl⟩
      | true =>
        cases hn : (n == 0) with
        | false =>
          have E : Hid (chkV 1 n p c = 121) := by unfold Hid; rw [E0, hn, hp, hc]; rfl
          clear E0
          go_enter Tryd.func12, Tryd.ntmps12
          go_wp2
          go_ret
          exact ⟨by rw [E.out]; rfl, rfl⟩
        | true =>
          have E : Hid (chkV 1 n p c = 0) := by unfold Hid; rw [E0, hn, hp, hc]; rfl
          clear E0
          go_enter Tryd.func12, Tryd.ntmps12
          go_wp2
          go_ret
          exact ⟨by rw [E.out]; rfl, rfl⟩
  · have E0 : chkV 2 n p c = if ((decide (1 ≤ n) && decide (n ≤ 64)) && ((p == 0) && (c == 0))) = true then 0 else 121 := by simp [chkV, and_assoc]
    have W1 := W 64
    generalize (decide (1 ≤ n) && decide (n ≤ 64)) = f1 at *
    clear W Wp Wc
    cases hp : (p == 0) with
    | false =>
      cases f1 with
      | false =>
        have E : Hid (chkV 2 n p c = 121) := by unfold Hid; rw [E0, hp]; rfl
        clear E0
        go_enter Tryd.func12, Tryd.ntmps12
        go_wp2_with fail
        refine (W1).mono ?_
        rintro e w' ⟨rfl, rfl⟩
        go_wp2
        go_ret
        exact ⟨by rw [E.out]; rfl, rfl⟩
      | true =>
        have E : Hid (chkV 2 n p c = 121) := by unfold Hid; rw [E0, hp]; rfl
        clear E0
        go_enter Tryd.func12, Tryd.ntmps12
        go_wp2_with fail
        refine (W1).mono ?_
        rintro e w' ⟨rfl, rfl⟩
        go_wp2
        go_ret
        exact ⟨by rw [E.out]; rfl, rfl⟩
    | true =>
      cases hc : (c == 0) with
      | false =>
        cases f1 with
        | false =>
          have E : Hid (chkV 2 n p c = 121) := by unfold Hid; rw [E0, hp, hc]; rfl
          clear E0
          go_enter Tryd.func12, Tryd.ntmps12
          go_wp2_with fail
          refine (W1).mono ?_
          rintro e w' ⟨rfl, rfl⟩
          go_wp2
          go_ret
          exact ⟨by rw [E.out]; rfl, rfl⟩
        | true =>
          have E : Hid (chkV 2 n p c = 121) := by unfold Hid; rw [E0, hp, hc]; rfl
          clear E0
          go_enter Tryd.func12, Tryd.ntmps12
          go_wp2_with fail
          refine (W1).mono ?_
          rintro e w' ⟨rfl, rfl⟩
          go_wp2
          go_ret
          exact ⟨by rw [E.out]; rfl, rfl⟩
      | true =>
        cases f1 with
        | false =>
          have E : Hid (chkV 2 n p c = 121) := by unfold Hid; rw [E0, hp, hc]; rfl
          clear E0
          go_enter Tryd.func12, Tryd.ntmps12
          go_wp2_with fail
          refine (W1).mono ?_
          rintro e w' ⟨rfl, rfl⟩
          go_wp2
          go_ret
          exact ⟨by rw [E.out]; rfl, rfl⟩
        | true =>
          have E : Hid (chkV 2 n p c = 0) := by unfold Hid; rw [E0, hp, hc]; rfl
          clear E0
          go_enter Tryd.func12, Tryd.ntmps12
          go_wp2_with fail
          refine (W1).mono ?_
          rintro e w' ⟨rfl, rfl⟩
          go_wp2
          go_ret
          exact ⟨by rw [E.out]; rfl, rfl⟩
  · have E0 : chkV 3 n p c = if ((decide (1 ≤ n) && decide (n ≤ 64)) && ((p == 0) && (c == 0))) = true then 0 else 121 := by simp [chkV, and_assoc]
    have W1 := W 64
    generalize (decide (1 ≤ n) && decide (n ≤ 64)) = f1 at *
    clear W Wp Wc
    cases hp : (p == 0) with
    | false =>
      cases f1 with
      | false =>
        have E : Hid (chkV 3 n p c = 121) := by unfold Hid; rw [E0, hp]; rfl
        clear E0
        go_enter Tryd.func12, Tryd.ntmps12
        go_wp2_with fail
        refine (W1).mono ?_
        rintro e w' ⟨rfl, rfl⟩
        go_wp2
        go_ret
        exact ⟨by rw [E.out]; rfl, rfl⟩
      | true =>
        have E : Hid (chkV 3 n p c = 121) := by unfold Hid; rw [E0, hp]; rfl
        clear E0
        go_enter Tryd.func12, Tryd.ntmps12
        go_wp2_with fail
        refine (W1).mono ?_
        rintro e w' ⟨rfl, rfl⟩
        go_wp2
        go_ret
        exact ⟨by rw [E.out]; rfl, rfl⟩
    | true =>
      cases hc : (c == 0) with
      | false =>
        cases f1 with
        | false =>
          have E : Hid (chkV 3 n p c = 121) := by unfold Hid; rw [E0, hp, hc]; rfl
          clear E0
          go_enter Tryd.func12, Tryd.ntmps12
          go_wp2_with fail
          refine (W1).mono ?_
          rintro e w' ⟨rfl, rfl⟩
          go_wp2
          go_ret
          exact ⟨by rw [E.out]; rfl, rfl⟩
        | true =>
          have E : Hid (chkV 3 n p c = 121) := by unfold Hid; rw [E0, hp, hc]; rfl
          clear E0
          go_enter Tryd.func12, Tryd.ntmps12
          go_wp2_with fail
          refine (W1).mono ?_
          rintro e w' ⟨rfl, rfl⟩
          go_wp2
          go_ret
          exact ⟨by rw [E.out]; rfl, rfl⟩
      | true =>
        cases f1 with
        | false =>
          have E : Hid (chkV 3 n p c = 121) := by unfold Hid; rw [E0, hp, hc]; rfl
          clear E0
          go_enter Tryd.func12, Tryd.ntmps12
          go_wp2_with fail
          refine (W1).mono ?_
          rintro e w' ⟨rfl, rfl⟩
          go_wp2
          go_ret
          exact ⟨by rw [E.out]; rfl, rfl⟩
        | true =>
          have E : Hid (chkV 3 n p c = 0) := by unfold Hid; rw [E0, hp, hc]; rfl
          clear E0
          go_enter Tryd.func12, Tryd.ntmps12
          go_wp2_with fail
          refine (W1).mono ?_
          rintro e w' ⟨rfl, rfl⟩
          go_wp2
          go_ret
          exact ⟨by rw [E.out]; rfl, rfl⟩
  · have E0 : chkV 4 n p c = if ((decide (1 ≤ n) && decide (n ≤ 64)) && ((p == 0) && (c == 0))) = true then 0 else 121 := by simp [chkV, and_assoc]
    have W1 := W 64
    generalize (decide (1 ≤ n) && decide (n ≤ 64)) = f1 at *
    clear W Wp Wc
    cases hp : (p == 0) with
    | false =>
      cases f1 with
      | false =>
        have E : Hid (chkV 4 n p c = 121) := by unfold Hid; rw [E0, hp]; rfl
        clear E0
        go_enter Tryd.func12, Tryd.ntmps12
        go_wp2_with fail
        refine (W1).mono ?_
        rintro e w' ⟨rfl, rfl⟩
        go_wp2
        go_ret
        exact ⟨by rw [E.out]; rfl, rfl⟩
      | true =>
        have E : Hid (chkV 4 n p c = 121) := by unfold Hid; rw [E0, hp]; rfl
        clear E0
        go_enter Tryd.func12, Tryd.ntmps12
        go_wp2_with fail
        refine (W1).mono ?_
        rintro e w' ⟨rfl, rfl⟩
        go_wp2
        go_ret
        exact ⟨by rw [E.out]; rfl, rfl⟩
    | true =>
      cases hc : (c == 0) with
      | false =>
        cases f1 with
        | false =>
          have E : Hid (chkV 4 n p c = 121) := by unfold Hid; rw [E0, hp, hc]; rfl
          clear E0
          go_enter Tryd.func12, Tryd.ntmps12
          go_wp2_with fail
          refine (W1).mono ?_
          rintro e w' ⟨rfl, rfl⟩
          go_wp2
          go_ret
          exact ⟨by rw [E.out]; rfl, rfl⟩
        | true =>
          have E : Hid (chkV 4 n p c = 121) := by unfold Hid; rw [E0, hp, hc]; rfl
          clear E0
          go_enter Tryd.func12, Tryd.ntmps12
          go_wp2_with fail
          refine (W1).mono ?_
          rintro e w' ⟨rfl, rfl⟩
          go_wp2
          go_ret
          exact ⟨by rw [E.out]; rfl, rfl⟩
      | true =>
        cases f1 with
        | false =>
          have E : Hid (chkV 4 n p c = 121) := by unfold Hid; rw [E0, hp, hc]; rfl
          clear E0
          go_enter Tryd.func12, Tryd.ntmps12
          go_wp2_with fail
          refine (W1).mono ?_
          rintro e w' ⟨rfl, rfl⟩
          go_wp2
          go_ret
          exact ⟨by rw [E.out]; rfl, rfl⟩
        | true =>
          have E : Hid (chkV 4 n p c = 0) := by unfold Hid; rw [E0, hp, hc]; rfl
          clear E0
          go_enter Tryd.func12, Tryd.ntmps12
          go_wp2_with fail
          refine (W1).mono ?_
          rintro e w' ⟨rfl, rfl⟩
          go_wp2
          go_ret
          exact ⟨by rw [E.out]; rfl, rfl⟩
  · have E0 : chkV 5 n p c = if ((decide (1 ≤ n) && decide (n ≤ 64)) && (decide (1 ≤ p) && decide (p ≤ 8)) && (decide (1 ≤ c) && decide (c ≤ 16))) = true then 0 else 121 := by simp [chkV, Bool.and_eq_true, and_assoc]
    have W1 := W 64
    generalize (decide (1 ≤ n) && decide (n ≤ 64)) = f1 at *
    generalize (decide (1 ≤ p) && decide (p ≤ 8)) = f2 at *
    generalize (decide (1 ≤ c) && decide (c ≤ 16)) = f3 at *
    have E : Hid (chkV 5 n p c = if (f1 && f2 && f3) = true then 0 else 121) := E0
    clear E0 W
    have hr : (p == 0) = true ∨ (p == 0) = false := by cases (p == 0) <;> simp
    have hr2 : (c == 0) = true ∨ (c == 0) = false := by cases (c == 0) <;> simp
    rcases hr with hr | hr <;> rcases hr2 with hr2 | hr2
    · cases f1 with
      | false =>
        go_enter Tryd.func12, Tryd.ntmps12
        go_wp2_with fail
        refine (W1).mono ?_
        rintro e w' ⟨rfl, rfl⟩
        go_wp2
        go_ret
        exact ⟨by rw [E.out]; rfl, rfl⟩
      | true =>
        cases f2 with
        | false =>
          go_enter Tryd.func12, Tryd.ntmps12
          go_wp2_with fail
          refine (W1).mono ?_
          rintro e w' ⟨rfl, rfl⟩
          go_wp2_with fail
          refine (Wp).mono ?_
          rintro e w' ⟨rfl, rfl⟩
          go_wp2
          go_ret
          exact ⟨by rw [E.out]; rfl, rfl⟩
        | true =>
          cases f3 <;>
          · go_enter Tryd.func12, Tryd.ntmps12
            go_wp2_with fail
            refine (W1).mono ?_
            rintro e w' ⟨rfl, rfl⟩
            go_wp2_with fail
            refine (Wp).mono ?_
            rintro e w' ⟨rfl, rfl⟩
            go_wp2_with fail
            refine (Wc).mono ?_
            rintro e w' ⟨rfl, rfl⟩
            go_wp2
            go_ret
            exact ⟨by rw [E.out]; rfl, rfl⟩
    · cases f1 with
      | false =>
        go_enter Tryd.func12, Tryd.ntmps12
        go_wp2_with fail
        refine (W1).mono ?_
        rintro e w' ⟨rfl, rfl⟩
        go_wp2
        go_ret
        exact ⟨by rw [E.out]; rfl, rfl⟩
      | true =>
        cases f2 with
        | false =>
          go_enter Tryd.func12, Tryd.ntmps12
          go_wp2_with fail
          refine (W1).mono ?_
          rintro e w' ⟨rfl, rfl⟩
          go_wp2_with fail
          refine (Wp).mono ?_
          rintro e w' ⟨rfl, rfl⟩
          go_wp2
          go_ret
          exact ⟨by rw [E.out]; rfl, rfl⟩
        | true =>
          cases f3 <;>
          · go_enter Tryd.func12, Tryd.ntmps12
            go_wp2_with fail
            refine (W1).mono ?_
            rintro e w' ⟨rfl, rfl⟩
            go_wp2_with fail
            refine (Wp).mono ?_
            rintro e w' ⟨rfl, rfl⟩
            go_wp2_with fail
            refine (Wc).mono ?_
            rintro e w' ⟨rfl, rfl⟩
            go_wp2
            go_ret
            exact ⟨by rw [E.out]; rfl, rfl⟩
    · cases f1 with
      | false =>
        go_enter Tryd.func12, Tryd.ntmps12
        go_wp2_with fail
        refine (W1).mono ?_
        rintro e w' ⟨rfl, rfl⟩
        go_wp2
        go_ret
        exact ⟨by rw [E.out]; rfl, rfl⟩
      | true =>
        cases f2 with
        | false =>
          go_enter Tryd.func12, Tryd.ntmps12
          go_wp2_with fail
          refine (W1).mono ?_
          rintro e w' ⟨rfl, rfl⟩
          go_wp2_with fail
          refine (Wp).mono ?_
          rintro e w' ⟨rfl, rfl⟩
          go_wp2
          go_ret
          exact ⟨by rw [E.out]; rfl, rfl⟩
        | true =>
          cases f3 <;>
          · go_enter Tryd.func12, Tryd.ntmps12
            go_wp2_with fail
            refine (W1).mono ?_
            rintro e w' ⟨rfl, rfl⟩
            go_wp2_with fail
            refine (Wp).mono ?_
            rintro e w' ⟨rfl, rfl⟩
            go_wp2_with fail
            refine (Wc).mono ?_
            rintro e w' ⟨rfl, rfl⟩
            go_wp2
            go_ret
            exact ⟨by rw [E.out]; rfl, rfl⟩
    · cases f1 with
      | false =>
        go_enter Tryd.func12, Tryd.ntmps12
        go_wp2_with fail
        refine (W1).mono ?_
        rintro e w' ⟨rfl, rfl⟩
        go_wp2
        go_ret
        exact ⟨by rw [E.out]; rfl, rfl⟩
      | true =>
        cases f2 with
        | false =>
          go_enter Tryd.func12, Tryd.ntmps12
          go_wp2_with fail
          refine (W1).mono ?_
          rintro e w' ⟨rfl, rfl⟩
          go_wp2_with fail
          refine (Wp).mono ?_
          rintro e w' ⟨rfl, rfl⟩
          go_wp2
          go_ret
          exact ⟨by rw [E.out]; rfl, rfl⟩
        | true =>
          cases f3 <;>
          · go_enter Tryd.func12, Tryd.ntmps12
            go_wp2_with fail
            refine (W1).mono ?_
            rintro e w' ⟨rfl, rfl⟩
            go_wp2_with fail
            refine (Wp).mono ?_
            rintro e w' ⟨rfl, rfl⟩
            go_wp2_with fail
            refine (Wc).mono ?_
            rintro e w' ⟨rfl, rfl⟩
            go_wp2
            go_ret
            exact ⟨by rw [E.out]; rfl, rfl⟩
  · have E0 : chkV 6 n p c = if ((decide (1 ≤ n) && decide (n ≤ 16)) && ((p == 0) && (c == 0))) = true then 0 else 121 := by simp [chkV, and_assoc]
    have W1 := W 16
    generalize (decide (1 ≤ n) && decide (n ≤ 16)) = f1 at *
    clear W Wp Wc
    cases hp : (p == 0) with
    | false =>
      cases f1 with
      | false =>
        have E : Hid (chkV 6 n p c = 121) := by unfold Hid; rw [E0, hp]; rfl
        clear E0
        go_enter Tryd.func12, Tryd.ntmps12
        go_wp2_with fail
        refine (W1).mono ?_
        rintro e w' ⟨rfl, rfl⟩
        go_wp2
        go_ret
        exact ⟨by rw [E.out]; rfl, rfl⟩
      | true =>
        have E : Hid (chkV 6 n p c = 121) := by unfold Hid; rw [E0, hp]; rfl
        clear E0
        go_enter Tryd.func12, Tryd.ntmps12
        go_wp2_with fail
        refine (W1).mono ?_
        rintro e w' ⟨rfl, rfl⟩
        go_wp2
        go_ret
        exact ⟨by rw [E.out]; rfl, rfl⟩
    | true =>
      cases hc : (c == 0) with
      | false =>
        cases f1 with
        | false =>
          have E : Hid (chkV 6 n p c = 121) := by unfold Hid; rw [E0, hp, hc]; rfl
          clear E0
          go_enter Tryd.func12, Tryd.ntmps12
          go_wp2_with fail
          refine (W1).mono ?_
          rintro e w' ⟨rfl, rfl⟩
          go_wp2
          go_ret
          exact ⟨by rw [E.out]; rfl, rfl⟩
        | true =>
          have E : Hid (chkV 6 n p c = 121) := by unfold Hid; rw [E0, hp, hc]; rfl
          clear E0
          go_enter Tryd.func12, Tryd.ntmps12
          go_wp2_with fail
          refine (W1).mono ?_
          rintro e w' ⟨rfl, rfl⟩
          go_wp2
          go_ret
          exact ⟨by rw [E.out]; rfl, rfl⟩
      | true =>
        cases f1 with
        | false =>
          have E : Hid (chkV 6 n p c = 121) := by unfold Hid; rw [E0, hp, hc]; rfl
          clear E0
          go_enter Tryd.func12, Tryd.ntmps12
          go_wp2_with fail
          refine (W1).mono ?_
          rintro e w' ⟨rfl, rfl⟩
          go_wp2
          go_ret
          exact ⟨by rw [E.out]; rfl, rfl⟩
        | true =>
          have E : Hid (chkV 6 n p c = 0) := by unfold Hid; rw [E0, hp, hc]; rfl
          clear E0
          go_enter Tryd.func12, Tryd.ntmps12
          go_wp2_with fail
          refine (W1).mono ?_
          rintro e w' ⟨rfl, rfl⟩
          go_wp2
          go_ret
          exact ⟨by rw [E.out]; rfl, rfl⟩
  · have E : Hid (chkV k n p c = 120) := by unfold Hid; rw [chkV, if_pos hk]
    have b1 : (k == 1) = false := by simp; omega
    have b2 : (k == 2) = false := by simp; omega
    have b3 : (k == 3) = false := by simp; omega
    have b4 : (k == 4) = false := by simp; omega
    have b5 : (k == 5) = false := by simp; omega
    have b6 : (k == 6) = false := by simp; omega
    clear W Wp Wc hk
    have hr : (p == 0) = true ∨ (p == 0) = false := by cases (p == 0) <;> simp
    rcases hr with hr | hr <;>
    · go_enter Tryd.func12, Tryd.ntmps12
      go_wp2
      go_ret
      exact ⟨by rw [E.out]; rfl, rfl⟩

theorem ten_cut : ∀ d : Fin 10, (⟨#[48, 49, 50, 51, 52, 53, 54, 55, 56, 57]⟩ : ByteArray).extract d.val (d.val + 1) = ⟨#[UInt8.ofNat (48 + d.val)]⟩ := by decide +kernel

theorem app_nil (a : UInt8) : (⟨#[a]⟩ ++ ⟨#[]⟩ : ByteArray) = ⟨#[a]⟩ := rfl
theorem app_one (a b : UInt8) : (⟨#[a]⟩ ++ ⟨#[b]⟩ : ByteArray) = ⟨#[a, b]⟩ := rfl
theorem dig_u (n : Nat) : (48 + UInt8.ofNat n : UInt8) = UInt8.ofNat (48 + n) := by
  rw [UInt8.ofNat_add]
  rfl
set_option maxHeartbeats 1000000 in
theorem number1_c (n : Nat) (h : n < 10) (w : World) : Calls Tryd.prog 17 #[.int .i64 (n : Int)] w fun e w' => e = .returned (Str (Lib.decDigits n)) ∧ w' = w := by
  have ht := ten_cut ⟨n, h⟩
  simp only at ht
  have e1 : (n : Int) % 10 = n := by omega
  have e2 : (n : Int) / 10 = 0 := by omega
  have E : Hid (Str (Lib.decDigits n) = .string (⟨#[48 + UInt8.ofNat n]⟩ ++ ⟨#[]⟩)) := by unfold Hid; rw [app_nil, Lib.decDigits_one h, dig_u]
  have hm : (⟨#[48 + UInt8.ofNat n]⟩ ++ ⟨#[]⟩ : ByteArray).toList.isEmpty = false := by rw [app_nil, Lib.toList_data]; rfl
  go_enter Tryd.func17, Tryd.ntmps17
  go_wp2
  refine wp_loop_rounds 2 ?_
  rw [rounds_succ]
  go_wp2
  rw [rounds_succ]
  generalize (⟨#[48 + UInt8.ofNat n]⟩ ++ ⟨#[]⟩ : ByteArray) = S at *
  go_wp2
  go_ret
  exact ⟨by rw [E.out]; rfl, rfl⟩
set_option maxHeartbeats 1000000 in
theorem number2_c (n : Nat) (h : ¬ n < 10) (h2 : n < 100) (w : World) : Calls Tryd.prog 17 #[.int .i64 (n : Int)] w fun e w' => e = .returned (Str (Lib.decDigits n)) ∧ w' = w := by
  obtain ⟨a, b, rfl, ha, ha0, hb⟩ : ∃ a b : Nat, n = 10 * a + b ∧ a < 10 ∧ 0 < a ∧ b < 10 := ⟨n / 10, n % 10, by omega, by omega, by omega, by omega⟩
  have ht := ten_cut ⟨b, hb⟩
  have ht2 := ten_cut ⟨a, ha⟩
  simp only at ht ht2
  have e1 : ((10 * a + b : Nat) : Int) % 10 = b := by omega
  have e2 : ((10 * a + b : Nat) : Int) / 10 = a := by omega
  have e3 : (a : Int) % 10 = a := by omega
  have e4 : (a : Int) / 10 = 0 := by omega
  have E : Hid (Str (Lib.decDigits (10 * a + b)) = .string (⟨#[48 + UInt8.ofNat a]⟩ ++ (⟨#[48 + UInt8.ofNat b]⟩ ++ ⟨#[]⟩))) := by
    unfold Hid
    rw [app_nil, app_one, Lib.decDigits_two h h2, dig_u, dig_u, show (10 * a + b) / 10 = a by omega, show (10 * a + b) % 10 = b by omega]
  have hm : (⟨#[48 + UInt8.ofNat b]⟩ ++ ⟨#[]⟩ : ByteArray).toList.isEmpty = false := by rw [app_nil, Lib.toList_data]; rfl
  have hm2 : (⟨#[48 + UInt8.ofNat a]⟩ ++ (⟨#[48 + UInt8.ofNat b]⟩ ++ ⟨#[]⟩) : ByteArray).toList.isEmpty = false := by rw [app_nil, app_one, Lib.toList_data]; rfl
  have hsz : (⟨#[48 + UInt8.ofNat b]⟩ ++ ⟨#[]⟩ : ByteArray).size = 1 := by rw [app_nil]; rfl
  clear h h2
  generalize hN : ((10 * a + b : Nat) : Int) = N at *
  have hN0 : 0 ≤ N := by omega
  have hN1 : N < 100 := by omega
  clear hN
  go_enter Tryd.func17, Tryd.ntmps17
  go_wp2
  refine wp_loop_rounds 3 ?_
  rw [rounds_succ]
  go_wp2
  rw [rounds_succ]
  generalize (⟨#[48 + UInt8.ofNat b]⟩ ++ ⟨#[]⟩ : ByteArray) = S at *
  go_wp2
  rw [rounds_succ]
  generalize (⟨#[48 + UInt8.ofNat a]⟩ ++ S : ByteArray) = S2 at *
  go_wp2
  go_ret
  exact ⟨by rw [E.out]; rfl, rfl⟩
theorem number_r (n : Int) (h0 : 0 ≤ n) (h : n < 100) (w : World) : Calls Tryd.prog 17 #[.int .i64 n] w fun e w' => e = .returned (Str (dd n)) ∧ w' = w := by
  obtain ⟨m, rfl⟩ := Int.eq_ofNat_of_zero_le h0
  have e : dd (m : Int) = Lib.decDigits m := by simp [dd]
  rw [e]
  by_cases h1 : m < 10
  · exact number1_c m h1 w
  · exact number2_c m h1 (by omega) w

end Go.Proofs.YtjblfjghbpcheaaDoor
