/- Create at a name of any length: a longer one is no name. -/
import Derived.Test.YtpjoaefmpdjjnaaSxDkZ3
namespace Go.Proofs.Ytpjoaefmpdjjnaa
open Go.RowKit Go.Lib Go.Maps

variable {w : World} {b : Nat} {q : Dq} {F : Nat → Prop}
theorem isName_long (s : ByteArray) (h2 : 32 < s.size) (hs : s.size ≤ 9223372036854775807) (w : World) : Calls Try.prog 57 #[.string s] w fun e w' => e = .returned (.bool false) ∧ w = w' := by
  have h2i : (32 : Int) < (s.size : Int) := by omega
  have h1i : ¬ (s.size : Int) < 1 := by omega
  clear h2
  go_enter Try.func57, Try.ntmps57
  go_wp2
  go_ret
  exact ⟨rfl, rfl⟩
set_option maxHeartbeats 2000000 in
set_option maxRecDepth 100000 in
theorem create_any (h : DkAt w b q F) (ok : q.Ok) (hst : q.st < 100000) {x : By} (hx : KWfS x) :
    Calls Try.prog 18 #[.pointer (some ⟨b, 0, none⟩), .string (sb x)] w fun e w' => e = .returned (.int .i64 (crE q x)) ∧ DkOut w w' b (q.create x) F := by
  by_cases hs : x.length ≤ 65536
  · exact create_c h ok hst hs
  have e2 : nmOk x = false := by unfold nmOk; rw [decide_eq_false (show ¬ x.length ≤ 32 by omega), Bool.and_false]; rfl
  have hr := refusal_c h ok
  have hS : Hid (DkOut w w b q F) := DkOut.self h
  have hn := isName_long (sb x) (by rw [sb_size]; omega) (by rw [sb_size]; unfold KWfS maxLen at hx; omega) w
  by_cases e1 : q.lf = 0
  · have E : rfE q = 174 := by unfold rfE; rw [if_pos e1]
    have E1 : crE q x = 174 := by unfold crE; rw [if_pos e1]
    have E2 : Hid (q.create x = q) := by unfold Hid Dq.create; rw [if_neg (by rw [E1]; decide)]
    rw [E] at hr
    rw [E1]
    generalize sb x = s at *
    generalize q.create x = q2 at *
    clear h ok E e1 E1 hn hs hx hst e2
    go_enter Try.func18, Try.ntmps18
    go_wp2_with fail
    refine hr.mono ?_
    rintro e w' ⟨rfl, rfl⟩
    go_wp2
    go_ret
    exact ⟨rfl, by rw [E2.out]; exact hS.out⟩
  have E : rfE q = 0 := by unfold rfE; rw [if_neg e1]
  rw [E] at hr
  have E1 : crE q x = 170 := by unfold crE; rw [if_neg e1, if_pos e2]
  have E2 : Hid (q.create x = q) := by unfold Hid Dq.create; rw [if_neg (by rw [E1]; decide)]
  rw [E1]
  generalize sb x = s at *
  generalize q.create x = q2 at *
  clear h ok E e1 E1 e2 hs hx hst
  go_enter Try.func18, Try.ntmps18
  go_wp2_with fail
  refine hr.mono ?_
  rintro e w' ⟨rfl, rfl⟩
  go_wp2_with fail
  refine hn.mono ?_
  rintro e w' ⟨rfl, rfl⟩
  go_wp2
  go_ret
  exact ⟨rfl, by rw [E2.out]; exact hS.out⟩
/-- A name that cannot be made is none that syncs. -/
theorem fiE_ne {q : Dq} (ok : q.Ok) {x : By} (h : nmOk x = false) : fiE q x ≠ 0 := by
  intro e
  have := ok.key (fiE_zero e).2.1
  rw [h] at this; cases this
end Go.Proofs.Ytpjoaefmpdjjnaa
