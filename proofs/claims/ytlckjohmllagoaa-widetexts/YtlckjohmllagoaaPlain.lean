/- Digits and the numbers that they say: plain facts on lists, no program. -/
import Derived.Test.YtlckjohmllagoaaBase
namespace Go.Proofs.Ytlckjohmllagoaa

def isDig (c : UInt8) : Bool := decide (48 ≤ (c.toNat : Int)) && decide ((c.toNat : Int) ≤ 57)
/-- Written as numbers are written: 1 to 39 digits, no nought in front of others. -/
def formB (l : List UInt8) : Bool := decide (1 ≤ l.length) && decide (l.length ≤ 39) && !(decide (2 ≤ l.length) && l.head? == some 48) && l.all isDig
/-- The number that the digits say. -/
def val (l : List UInt8) : Nat := l.foldl (fun n c => 10 * n + (c.toNat - 48)) 0

theorem val_snoc (l : List UInt8) (c : UInt8) : val (l ++ [c]) = 10 * val l + (c.toNat - 48) := by
  unfold val; rw [List.foldl_append]; rfl
theorem foldl_ge (l : List UInt8) (n : Nat) : n ≤ l.foldl (fun n c => 10 * n + (c.toNat - 48)) n := by
  induction l generalizing n with
  | nil => exact Nat.le_refl _
  | cons c r ih => exact Nat.le_trans (by omega) (ih (10 * n + (c.toNat - 48)))
theorem val_take_le (l : List UInt8) (k : Nat) : val (l.take k) ≤ val l := by
  have h : l.take k ++ l.drop k = l := List.take_append_drop k l
  have : val l = (l.drop k).foldl (fun n c => 10 * n + (c.toNat - 48)) (val (l.take k)) := by
    conv => lhs; rw [← h]
    unfold val; rw [List.foldl_append]
  rw [this]; exact foldl_ge _ _

/-- The digits of a number, none of 0. -/
def dg : Nat → Nat → List UInt8
  | 0, _ => []
  | f + 1, n => if n = 0 then [] else dg f (n / 10) ++ [UInt8.ofNat (48 + n % 10)]
/-- A number as it is printed. -/
def prt (n : Nat) : List UInt8 := if n = 0 then [48] else dg 39 n

theorem dg_zero (f : Nat) : dg f 0 = [] := by cases f <;> simp [dg]
theorem dg_more (f : Nat) : ∀ n, n < 10 ^ f → dg (f + 1) n = dg f n := by
  induction f with
  | zero => intro n h; have : n = 0 := by simpa using h
            subst this; simp [dg]
  | succ f ih =>
    intro n h
    by_cases h0 : n = 0
    · subst h0; rw [dg_zero, dg_zero]
    · have e1 : dg (f + 1 + 1) n = dg (f + 1) (n / 10) ++ [UInt8.ofNat (48 + n % 10)] := by rw [dg, if_neg h0]
      have e2 : dg (f + 1) n = dg f (n / 10) ++ [UInt8.ofNat (48 + n % 10)] := by rw [dg, if_neg h0]
      rw [e1, e2, ih (n / 10) (by rw [Nat.pow_succ] at h; omega)]
theorem dg_step (n : Nat) (h : n < 10 ^ 39) (h0 : n ≠ 0) : dg 39 n = dg 39 (n / 10) ++ [UInt8.ofNat (48 + n % 10)] := by
  have e1 : dg 39 n = dg 38 (n / 10) ++ [UInt8.ofNat (48 + n % 10)] := by rw [dg, if_neg h0]
  rw [e1, ← dg_more 38 (n / 10) (by rw [Nat.pow_succ] at h; omega)]
theorem prt_step (n : Nat) (h : n < 10 ^ 39) : prt n = dg 39 (n / 10) ++ [UInt8.ofNat (48 + n % 10)] := by
  unfold prt
  by_cases h0 : n = 0
  · subst h0; rw [if_pos rfl, dg_zero]; rfl
  · rw [if_neg h0, dg_step n h h0]

theorem d_toNat (k : Nat) (h : k < 10) : (UInt8.ofNat (48 + k)).toNat = 48 + k := by
  show (48 + k) % 256 = 48 + k; omega
theorem val_dg (f : Nat) : ∀ n, n < 10 ^ f → val (dg f n) = n := by
  induction f with
  | zero => intro n h; have : n = 0 := by simpa using h
            subst this; rfl
  | succ f ih =>
    intro n h
    by_cases h0 : n = 0
    · subst h0; rw [dg_zero]; rfl
    · rw [dg, if_neg h0, val_snoc, ih (n / 10) (by rw [Nat.pow_succ] at h; omega), d_toNat _ (by omega)]
      omega
theorem val_prt (n : Nat) (h : n < 10 ^ 39) : val (prt n) = n := by
  unfold prt
  by_cases h0 : n = 0
  · subst h0; rfl
  · rw [if_neg h0, val_dg 39 n h]
theorem dg_len (f : Nat) : ∀ n, (dg f n).length ≤ f := by
  induction f with
  | zero => intro n; simp [dg]
  | succ f ih =>
    intro n
    by_cases h0 : n = 0
    · subst h0; rw [dg_zero]; simp
    · rw [dg, if_neg h0]; have := ih (n / 10); simp; omega
theorem isDig_d (k : Nat) (h : k < 10) : isDig (UInt8.ofNat (48 + k)) = true := by
  unfold isDig; rw [d_toNat k h]; simp; omega
theorem dg_all (f : Nat) : ∀ n, (dg f n).all isDig = true := by
  induction f with
  | zero => intro n; simp [dg]
  | succ f ih =>
    intro n
    by_cases h0 : n = 0
    · subst h0; rw [dg_zero]; rfl
    · rw [dg, if_neg h0, List.all_append, ih (n / 10)]; simp only [List.all_cons, List.all_nil, Bool.and_true, Bool.true_and]; exact isDig_d _ (by omega)
theorem dg_head (f : Nat) : ∀ n, n < 10 ^ f → (dg f n).head? ≠ some 48 := by
  induction f with
  | zero => intro n _; simp [dg]
  | succ f ih =>
    intro n h
    by_cases h0 : n = 0
    · subst h0; rw [dg_zero]; simp
    · rw [dg, if_neg h0]
      by_cases h1 : n / 10 = 0
      · rw [h1, dg_zero]
        simp only [List.nil_append, List.head?_cons, ne_eq, Option.some.injEq]
        intro he
        have := congrArg UInt8.toNat he
        rw [d_toNat _ (by omega)] at this
        have e : (48 : UInt8).toNat = 48 := rfl
        omega
      · have hne : dg f (n / 10) ≠ [] := by
          intro he
          have := val_dg f (n / 10) (by rw [Nat.pow_succ] at h; omega)
          rw [he] at this
          have e : val [] = 0 := rfl
          omega
        rw [List.head?_append, List.head?_eq_some_head hne]
        have := ih (n / 10) (by rw [Nat.pow_succ] at h; omega)
        rw [List.head?_eq_some_head hne] at this
        simpa using this
theorem prt_form (n : Nat) (h : n < 10 ^ 39) : formB (prt n) = true := by
  unfold prt
  by_cases h0 : n = 0
  · subst h0; rfl
  · rw [if_neg h0]
    have h1 := dg_len 39 n
    have h2 := dg_all 39 n
    have h3 := dg_head 39 n h
    have h4 : 1 ≤ (dg 39 n).length := by
      rw [dg_step n h h0]; simp
    unfold formB
    rw [h2]
    simp only [h1, h4, decide_true, Bool.true_and, Bool.and_true]
    have : ((dg 39 n).head? == some 48) = false := by simpa using h3
    rw [this]; simp

end Go.Proofs.Ytlckjohmllagoaa
