/- Rows of specs that are read; router.Choose and the reference's. -/
import Derived.Test.YtgmjokmiifmckaaRoR
namespace Go.Proofs.Ytgmjokmiifmckaa
open Go.RowKit

abbrev N4 := Int × Int × Int × Int
/-- The slice v reads as these specs. -/
def RdS (w : World) (v : Value) (l : List N4) : Prop := ∃ a cap, v = .slice a l.length cap ∧ ∀ i, i < l.length → ∃ b o, a = some ⟨b, o, none⟩ ∧ w.cell? ⟨b, o + i * 4, none⟩ = some (.int .i64 l[i]!.1) ∧ w.cell? ⟨b, o + i * 4 + 1, none⟩ = some (.int .i64 l[i]!.2.1) ∧ w.cell? ⟨b, o + i * 4 + 2, none⟩ = some (.int .i64 l[i]!.2.2.1) ∧ w.cell? ⟨b, o + i * 4 + 3, none⟩ = some (.int .i64 l[i]!.2.2.2)
theorem RdS.gb {w w' : World} {v : Value} {l : List N4} (h : RdS w v l) (g : Gb w w') : RdS w' v l := by
  obtain ⟨a, cap, e, h⟩ := h
  refine ⟨a, cap, e, fun i hi => ?_⟩
  obtain ⟨b, o, e1, e2, e3, e4, e5⟩ := h i hi
  exact ⟨b, o, e1, gb_keeps g e2, gb_keeps g e3, gb_keeps g e4, gb_keeps g e5⟩

abbrev ceN (rows dim : Int) (s : N4) : Int := cstE s.1 s.2.1 s.2.2.1 s.2.2.2 rows dim
/-- What a spec costs, to who demands what he demands. -/
def fN (rows dim m : Int) (s : N4) : Int := cstN s.1 s.2.1 s.2.2.1 s.2.2.2 rows dim + if m = 1 ∧ (s.1 = 5 ∨ s.1 = 6) then dim * rows else 0
/-- The first error of some specs. -/
def erL (rows dim : Int) : List N4 → Int
  | [] => 0
  | s :: r => if ceN rows dim s = 0 then erL rows dim r else ceN rows dim s
/-- The cheapest of the first q, and what it costs. -/
def chGo (f : N4 → Int) (l : List N4) : Nat → Int × Int
  | 0 => (0, 0)
  | q + 1 => if q = 0 ∨ f l[q]! < (chGo f l q).2 then ((q : Int), f l[q]!) else chGo f l q
def chcE (n k m : Int) : Int := if n = 0 then 1 else if 16 < n then 2 else if k < 1 ∨ 64 < k then 1 else if m = 1 ∨ m = 2 then 0 else 210
def choE (l : List N4) (rows dim k m : Int) : Int := if chcE l.length k m = 0 then erL rows dim l else chcE l.length k m
def choN (l : List N4) (rows dim k m : Int) : Int := if choE l rows dim k m = 0 then (chGo (fN rows dim m) l l.length).1 else 0

theorem erL_app (rows dim : Int) (a b : List N4) (h : erL rows dim a = 0) : erL rows dim (a ++ b) = erL rows dim b := by
  induction a with
  | nil => rfl
  | cons s r ih =>
    simp only [erL, List.cons_append] at *
    split at h
    · rename_i e; rw [if_pos e]; exact ih h
    · rename_i e; exact absurd h e
theorem erL_take {rows dim : Int} {l : List N4} {q : Nat} (hq : q < l.length) (h : erL rows dim (l.take q) = 0) (he : ceN rows dim l[q]! = 0) : erL rows dim (l.take (q + 1)) = 0 := by
  rw [List.take_succ_eq_append_getElem hq, erL_app _ _ _ _ h, ← getElem!_pos l q hq]
  simp only [erL, he, if_true]
theorem erL_stop {rows dim : Int} {l : List N4} {q : Nat} (hq : q < l.length) (h : erL rows dim (l.take q) = 0) (he : ¬ ceN rows dim l[q]! = 0) : erL rows dim l = ceN rows dim l[q]! := by
  have e : erL rows dim l = erL rows dim (l.take q ++ l.drop q) := by rw [List.take_append_drop]
  rw [e, erL_app _ _ _ _ h, List.drop_eq_getElem_cons hq]
  rw [getElem!_pos l q hq] at he ⊢
  simp only [erL]
  rw [if_neg he]
theorem cstV_bd {k n p c rows dim : Int} (h : cstE k n p c rows dim = 0) : 0 ≤ cstV k n p c rows dim ∧ cstV k n p c rows dim ≤ 200000 ∧ 0 ≤ dim * rows ∧ dim * rows ≤ 40000 := by
  unfold cstE at h
  split at h
  · rename_i h0
    split at h
    · cases h
    · rename_i h1
      obtain ⟨hk, hn, hn1, hp, hc⟩ := chk_bd h0
      have hg := digV_bd (n := rows) (by omega) (by omega)
      obtain ⟨a1, a2⟩ := prod_bd (a := dim) (b := rows) (A := 64) (B := 512) (by omega) (by omega) (by omega) (by omega)
      have H : ∀ t : Int, 0 ≤ t → 0 ≤ dim * min rows (t * n * digV rows) ∧ dim * min rows (t * n * digV rows) ≤ 200000 := fun t ht => by
        obtain ⟨q1, _⟩ := prod_bd (a := t * n) (b := digV rows) (A := t * n) (B := 10) (Int.mul_nonneg ht hn.1) (by omega) hg.1 hg.2
        obtain ⟨q3, q4⟩ := prod_bd (a := dim) (b := min rows (t * n * digV rows)) (A := 64) (B := 512) (by omega) (by omega) (by omega) (by omega)
        omega
      refine ⟨?_, ?_, a1, by omega⟩ <;> unfold cstV <;> repeat' split
      all_goals first | exact (H _ (by omega)).1 | exact (H _ (by omega)).2 | skip
      all_goals first
        | omega
        | (have hu := upV_bd (a := 2 * rows) (b := n) (by omega) (hn1 (by omega))
           obtain ⟨q1, q2⟩ := prod_bd (a := dim) (b := n + upV (2 * rows) n) (A := 64) (B := 2000) (by omega) (by omega) (by omega) (by omega)
           omega)
        | (have hu := upV_bd (a := rows) (b := n) (by omega) (hn1 (by omega))
           obtain ⟨q1, q2⟩ := prod_bd (a := dim) (b := n + c + 16) (A := 64) (B := 100) (by omega) (by omega) (by omega) (by omega)
           obtain ⟨q3, q4⟩ := prod_bd (a := p) (b := upV rows n) (A := 8) (B := 512) (by omega) (by omega) (by omega) (by omega)
           omega)
  · rename_i h0; exact absurd h h0
theorem fN_bd {rows dim m : Int} {s : N4} (h : ceN rows dim s = 0) : (0 ≤ fN rows dim m s ∧ fN rows dim m s ≤ 300000) ∧ (0 ≤ cstN s.1 s.2.1 s.2.2.1 s.2.2.2 rows dim ∧ cstN s.1 s.2.1 s.2.2.1 s.2.2.2 rows dim ≤ 200000) ∧ 0 ≤ dim * rows ∧ dim * rows ≤ 40000 := by
  obtain ⟨a, b, c, d⟩ := cstV_bd h
  have e : cstN s.1 s.2.1 s.2.2.1 s.2.2.2 rows dim = cstV s.1 s.2.1 s.2.2.1 s.2.2.2 rows dim := by unfold cstN; rw [if_pos h]
  refine ⟨?_, by omega, c, d⟩
  unfold fN
  rw [e]
  split <;> omega

theorem isK_c (k : Int) (w : World) : Calls Try.prog 29 #[.int .i64 k] w fun e w' => e = .returned (.bool (decide (1 ≤ k) && decide (k ≤ 64))) ∧ w' = w := by
  by_cases h : 1 ≤ k
  · go_enter Try.func29, Try.ntmps29
    go_wp2
    go_ret
    exact ⟨by simp [h], rfl⟩
  · go_enter Try.func29, Try.ntmps29
    go_wp2
    go_ret
    exact ⟨by simp; omega, rfl⟩
theorem isMode_c (m : Int) (w : World) : Calls Try.prog 30 #[.int .i64 m] w fun e w' => e = .returned (.bool (m == 1 || m == 2)) ∧ w' = w := by
  cases h1 : (m == 1) <;>
  · go_enter Try.func30, Try.ntmps30
    go_wp2
    go_ret
    exact ⟨by simp, rfl⟩
theorem rmode_c (m : Int) (w : World) : Calls Try.prog 27 #[.int .i64 m] w fun e w' => e = .returned (.bool (m == 1 || m == 2)) ∧ w' = w := by
  cases h1 : (m == 1) <;>
  · go_enter Try.func27, Try.ntmps27
    go_wp2
    go_ret
    exact ⟨by simp, rfl⟩
theorem looks_c (k : Int) (w : World) : Calls Try.prog 26 #[.int .i64 k] w fun e w' => e = .returned (.bool (k == 5 || k == 6)) ∧ w' = w := by
  cases h1 : (k == 5) <;>
  · go_enter Try.func26, Try.ntmps26
    go_wp2
    go_ret
    exact ⟨by simp, rfl⟩
theorem checkChoice_c (a : Option Addr) (n cap : Nat) (k m : Int) (w : World) : Calls Try.prog 25 #[.slice a n cap, .int .i64 k, .int .i64 m] w fun e w' => e = .returned (.int .i64 (chcE n k m)) ∧ w' = w := by
  have hK := fun W => isK_c k W
  have hM := fun W => isMode_c m W
  have E : chcE n k m = if ((n : Int) == 0) = true then 1 else if 16 < (n : Int) then 2 else if (decide (1 ≤ k) && decide (k ≤ 64)) = true then (if (m == 1 || m == 2) = true then 0 else 210) else 1 := by
    unfold chcE
    by_cases h0 : (n : Int) = 0
    · rw [if_pos h0, if_pos (by rw [h0]; rfl)]
    · have h0' : ¬ ((n : Int) == 0) = true := by rw [beq_iff_eq]; exact h0
      by_cases h1 : 16 < (n : Int)
      · rw [if_neg h0, if_neg h0', if_pos h1, if_pos h1]
      · rw [if_neg h0, if_neg h1, if_neg h0', if_neg h1]
        by_cases h2 : 1 ≤ k ∧ k ≤ 64
        · rw [if_neg (show ¬ (k < 1 ∨ 64 < k) by omega), if_pos (show (decide (1 ≤ k) && decide (k ≤ 64)) = true by simp [h2.1, h2.2])]
          by_cases h3 : m = 1 ∨ m = 2
          · rw [if_pos h3, if_pos (by simpa using h3)]
          · rw [if_neg h3, if_neg (by simpa using h3)]
        · rw [if_pos (show k < 1 ∨ 64 < k by omega), if_neg (show ¬ (decide (1 ≤ k) && decide (k ≤ 64)) = true by simp; omega)]
  rw [E]
  clear E
  generalize (decide (1 ≤ k) && decide (k ≤ 64)) = b1 at *
  generalize (m == 1 || m == 2) = b2 at *
  cases h0 : ((n : Int) == 0) with
  | true =>
    go_enter Try.func25, Try.ntmps25
    go_wp2
    go_ret
    exact ⟨rfl, rfl⟩
  | false =>
    by_cases h1 : 16 < (n : Int)
    · have e : Hid ((if 16 < (n : Int) then (2 : Int) else if b1 = true then (if b2 = true then 0 else 210) else 1) = 2) := if_pos h1
      go_enter Try.func25, Try.ntmps25
      go_wp2
      go_ret
      exact ⟨by first | (rw [e.out]; rfl) | rfl, rfl⟩
    · cases b1 <;> cases b2 <;>
      · go_enter Try.func25, Try.ntmps25
        go_wp2_with first | (go_at_call 29; refine (hK _).mono ?_; rintro e w' ⟨rfl, rfl⟩) | (go_at_call 30; refine (hM _).mono ?_; rintro e w' ⟨rfl, rfl⟩)
        go_ret
        first | exact ⟨rfl, rfl⟩ | (simp [h1])

theorem chGo_bd {f : N4 → Int} {l : List N4} {B : Int} (hB : 0 ≤ B) : ∀ q, q ≤ l.length → (∀ i, i < q → 0 ≤ f l[i]! ∧ f l[i]! ≤ B) → 0 ≤ (chGo f l q).2 ∧ (chGo f l q).2 ≤ B ∧ 0 ≤ (chGo f l q).1 ∧ (chGo f l q).1 ≤ q
  | 0, _, _ => by simp only [chGo]; omega
  | q + 1, hq, h => by
    obtain ⟨a, b, c, d⟩ := chGo_bd hB q (by omega) (fun i hi => h i (by omega))
    have := h q (by omega)
    simp only [chGo]
    split <;> refine ⟨?_, ?_, ?_, ?_⟩ <;> omega
theorem erL_all {rows dim : Int} {l : List N4} {q : Nat} (h : erL rows dim (l.take q) = 0) : ∀ i, i < q → i < l.length → ceN rows dim (l[i]!) = 0 := by
  intro i hi hl
  have e : erL rows dim (l.take q) = 0 := h
  by_cases hc : ceN rows dim l[i]! = 0
  · exact hc
  · exfalso
    have hlt : i < (l.take q).length := by rw [List.length_take]; omega
    have e1 : (l.take q)[i]! = l[i]! := by rw [getElem!_pos (l.take q) i hlt, getElem!_pos l i hl, List.getElem_take]
    have : ∀ (m : List N4) (i : Nat), i < m.length → erL rows dim m = 0 → ceN rows dim m[i]! = 0 := by
      intro m
      induction m with
      | nil => intro i hi; exact absurd hi (Nat.not_lt_zero _)
      | cons s r ih =>
        intro i hi h0
        simp only [erL] at h0
        split at h0
        · rename_i hs
          cases i with
          | zero => simpa using hs
          | succ i => simpa using ih i (by simpa using hi) h0
        · rename_i hs; exact absurd h0 hs
    exact hc (e1 ▸ this _ i hlt e)
theorem chcE_ok {n : Nat} {k m : Int} (h : chcE n k m = 0) : 0 < n ∧ n ≤ 16 ∧ 1 ≤ k ∧ k ≤ 64 ∧ (m = 1 ∨ m = 2) := by
  unfold chcE at h
  split at h
  · cases h
  · split at h
    · cases h
    · split at h
      · cases h
      · split at h
        · rename_i hm; exact ⟨by omega, by omega, by omega, by omega, hm⟩
        · cases h
end Go.Proofs.Ytgmjokmiifmckaa
