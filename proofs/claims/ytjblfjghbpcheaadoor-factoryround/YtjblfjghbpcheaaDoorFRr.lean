/- The reference's Print. -/
import Derived.Test.YtjblfjghbpcheaaDoorFRn
namespace Go.Proofs.YtjblfjghbpcheaaDoor
open Go.Shelf Go.RowKit

theorem app_str (a b : Bs) : ((⟨a.toArray⟩ : ByteArray) ++ ⟨b.toArray⟩) = ⟨(a ++ b).toArray⟩ := by
  have : ((⟨a.toArray⟩ : ByteArray) ++ ⟨b.toArray⟩).data.toList = a ++ b := by simp
  cases h : ((⟨a.toArray⟩ : ByteArray) ++ ⟨b.toArray⟩) with
  | mk d => rw [h] at this; simp only at this; rw [← this]
theorem app_lit (a : Array UInt8) (b : Bs) : ((⟨a⟩ : ByteArray) ++ ⟨b.toArray⟩) = ⟨(a.toList ++ b).toArray⟩ := by
  have := app_str a.toList b
  simpa using this
theorem app_lit2 (a : Bs) (b : Array UInt8) : ((⟨a.toArray⟩ : ByteArray) ++ ⟨b⟩) = ⟨(a ++ b.toList).toArray⟩ := by
  have := app_str a b.toList
  simpa using this

set_option maxHeartbeats 1000000 in
theorem rprint_c (k n p c : Int) (w : World) : Calls Tryd.prog 10 #[Sp k n p c] w fun e w' => e = .returned (.tuple #[Str (prV k n p c).1, .int .i64 (prV k n p c).2]) ∧ Below w.heap.size w w' := by
  have C := rcheck_c k n p c
  have g1 : Below w.heap.size w (bxW k n p c (bxW k n p c w)) := ((Below.refl _ w).alloc (Nat.le_refl _) _).alloc (by simp) _
  by_cases h : chkV k n p c = 0
  · obtain ⟨hk, hn, hp, hc⟩ := chk_bounds h
    have E : Hid (prV k n p c = (prK k n p c, 0)) := by unfold Hid prV; rw [if_pos h]
    rw [h] at C
    have N1 := number_r n hn.1 hn.2
    have N2 := number_r p hp.1 hp.2
    have N3 := number_r c hc.1 hc.2
    have ln := dd_len hn.1 hn.2
    have lp := dd_len hp.1 hp.2
    have lc := dd_len hc.1 hc.2
    have NN : ∀ x : Int, (0 ≤ x ∧ x < 100) → ∀ W, Calls Tryd.prog 17 #[.int .i64 x] W fun e w' => e = .returned (Str (dd x)) ∧ w' = W := fun x hx W => number_r x hx.1 hx.2 W
    clear h
    have hc' : k = 1 ∨ k = 2 ∨ k = 3 ∨ k = 4 ∨ k = 5 ∨ k = 6 := by omega
    rcases hc' with rfl | rfl | rfl | rfl | rfl | rfl
    · go_enter Tryd.func10, Tryd.ntmps10
      go_wp2_with fail
      refine (C _).mono ?_
      rintro e w1 ⟨rfl, rfl⟩
      go_wp2
      go_ret2
      rw [E.out]
      exact ⟨rfl, g1⟩
    · have P : Hid (Str (prK 2 n p c) = .string (⟨#[75, 68]⟩ ++ ⟨(dd n).toArray⟩)) := by unfold Hid; rw [app_lit]; rfl
      go_enter Tryd.func10, Tryd.ntmps10
      go_wp2_with fail
      refine (C _).mono ?_
      rintro e w1 ⟨rfl, rfl⟩
      go_wp2_with fail
      refine (N1 _).mono ?_
      rintro e w1 ⟨rfl, rfl⟩
      go_wp2
      go_ret2
      rw [E.out]
      exact ⟨by rw [P.out]; rfl, g1⟩
    · have P : Hid (Str (prK 3 n p c) = .string (⟨#[86, 80]⟩ ++ ⟨(dd n).toArray⟩)) := by unfold Hid; rw [app_lit]; rfl
      go_enter Tryd.func10, Tryd.ntmps10
      go_wp2_with fail
      refine (C _).mono ?_
      rintro e w1 ⟨rfl, rfl⟩
      go_wp2_with fail
      refine (N1 _).mono ?_
      rintro e w1 ⟨rfl, rfl⟩
      go_wp2
      go_ret2
      rw [E.out]
      exact ⟨by rw [P.out]; rfl, g1⟩
    · have P : Hid (Str (prK 4 n p c) = .string ((⟨#[73, 86, 70]⟩ ++ ⟨(dd n).toArray⟩) ++ ⟨#[44, 70, 108, 97, 116]⟩)) := by unfold Hid; rw [app_lit, app_lit2]; rfl
      go_enter Tryd.func10, Tryd.ntmps10
      go_wp2_with fail
      refine (C _).mono ?_
      rintro e w1 ⟨rfl, rfl⟩
      go_wp2_with fail
      refine (N1 _).mono ?_
      rintro e w1 ⟨rfl, rfl⟩
      go_wp2
      go_ret2
      rw [E.out]
      exact ⟨by rw [P.out]; rfl, g1⟩
    · have P : Hid (Str (prK 5 n p c) = .string (((((⟨#[73, 86, 70]⟩ ++ ⟨(dd n).toArray⟩) ++ ⟨#[44, 80, 81]⟩) ++ ⟨(dd p).toArray⟩) ++ ⟨#[120]⟩) ++ ⟨(dd c).toArray⟩)) := by unfold Hid; rw [app_lit, app_lit2, app_str, app_lit2, app_str]; rfl
      have s1 : ((⟨#[73, 86, 70]⟩ : ByteArray) ++ ⟨(dd n).toArray⟩).size ≤ 5 := by rw [app_lit, size_mk]; simp; omega
      have s2 : (((⟨#[73, 86, 70]⟩ : ByteArray) ++ ⟨(dd n).toArray⟩) ++ ⟨#[44, 80, 81]⟩).size ≤ 8 := by rw [app_lit, app_lit2, size_mk]; simp; omega
      go_enter Tryd.func10, Tryd.ntmps10
      go_wp2_with fail
      refine (C _).mono ?_
      rintro e w1 ⟨rfl, rfl⟩
      go_wp2
      clear N1 N2 N3
      go_quiet (first | (go_at_call 17; refine Calls.quiet_of_same (NN _ ?_ _); assumption))
      go_wp2
      go_ret2
      rw [E.out]
      exact ⟨by rw [P.out]; rfl, below_drewN g1 _⟩
    · have P : Hid (Str (prK 6 n p c) = .string (⟨#[72, 78, 83, 87]⟩ ++ ⟨(dd n).toArray⟩)) := by unfold Hid; rw [app_lit]; rfl
      go_enter Tryd.func10, Tryd.ntmps10
      go_wp2_with fail
      refine (C _).mono ?_
      rintro e w1 ⟨rfl, rfl⟩
      go_wp2_with fail
      refine (N1 _).mono ?_
      rintro e w1 ⟨rfl, rfl⟩
      go_wp2
      go_ret2
      rw [E.out]
      exact ⟨by rw [P.out]; rfl, g1⟩
  · have E : Hid (prV k n p c = ([], chkV k n p c)) := by unfold Hid prV; rw [if_neg h]
    have hb : (chkV k n p c == 0) = false := by simpa using h
    generalize chkV k n p c = z at *
    clear h
    go_enter Tryd.func10, Tryd.ntmps10
    go_wp2_with fail
    refine (C _).mono ?_
    rintro e w1 ⟨rfl, rfl⟩
    go_wp2
    go_ret2
    rw [E.out]
    exact ⟨rfl, g1⟩

end Go.Proofs.YtjblfjghbpcheaaDoor
