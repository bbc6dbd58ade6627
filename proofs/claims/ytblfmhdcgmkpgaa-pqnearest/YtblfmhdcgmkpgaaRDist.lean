/- theodoliteref03.Dist. -/
import Derived.Test.YtblfmhdcgmkpgaaFar
namespace Go.Proofs.Ytblfmhdcgmkpgaa
open Go.RowKit


set_option maxHeartbeats 2000000 in
theorem rdist_c {w : World} {u v : Value} {a b : List Int} (hu : RdI w u a) (hv : RdI w v b) :
    Calls Try.prog 26 #[u, v] w fun e w' => e = .returned (.tuple #[Wd (distV a b), .int .i64 (distE a b)]) ∧ Gr w w' := by
  have U : Hid (RdI w u a) := hu
  have V : Hid (RdI w v b) := hv
  have G0 : Gr w (w.alloc (.cells #[.int .u64 0, .int .u64 0] 51)) := (Gr.refl _).alloc _ _
  have cA := fun r h => rcheck_v (hu.gb G0.gb) (a.length : Int) r h
  have cB := fun r h => rcheck_v (hv.gb G0.gb) (a.length : Int) r h
  obtain ⟨pa, ca, rfl, _⟩ := hu
  obtain ⟨pb, cb, rfl, _⟩ := hv
  by_cases h1 : chk a a.length = 0
  · have c1 := cA _ h1
    by_cases h2 : chk b a.length = 0
    · have c2 := cB _ h2
      have E : distE a b = 0 := by unfold distE; rw [if_pos h1, h2]
      have E2 : distV a b = dst a b := by unfold distV; rw [if_pos E]
      obtain ⟨_, _, h3, h4, h5, h6, h7⟩ := distE_ok E
      have c3 := far_c (U.out.gb G0.gb) (V.out.gb G0.gb) h3 h5 h6 h7
      rw [E, E2]
      clear cA cB h1 h2 h3 h4 h5 h6 h7 E E2 U V
      generalize dst a b = s at *
      generalize b.length = m at *
      generalize a.length = n at *
      go_enter Try.func26, Try.ntmps26
      go_wp2_with fail
      refine c1.mono ?_
      rintro e w' ⟨rfl, e2⟩
      subst e2
      go_wp2_with fail
      refine c2.mono ?_
      rintro e w' ⟨rfl, e2⟩
      subst e2
      go_wp2_with fail
      refine c3.mono ?_
      rintro e w' ⟨rfl, g⟩
      obtain ⟨v0, v1, v2, v3⟩ := g.var2
      go_wp2
      exact bodyPost_ret (v := .tuple #[Wd s, .int .i64 0]) (by simp [results, Try.results26, go_sem, v0, v1]) rfl ⟨rfl, ((G0.trans g).setCell (by simp) _).setCell (by simp) _⟩
    · have c2 := cB _ rfl
      have E : distE a b = chk b a.length := by unfold distE; rw [if_pos h1]
      have E2 : distV a b = 0 := by unfold distV; rw [E, if_neg h2]
      have h3 : (chk b a.length == 0) = false := by rw [beq_eq_false_iff_ne]; exact h2
      rw [E, E2]
      clear cA cB h1 h2 E E2 U V
      generalize chk b a.length = s at *
      generalize b.length = m at *
      generalize a.length = n at *
      go_enter Try.func26, Try.ntmps26
      go_wp2_with fail
      refine c1.mono ?_
      rintro e w' ⟨rfl, e2⟩
      subst e2
      go_wp2_with fail
      refine c2.mono ?_
      rintro e w' ⟨rfl, e2⟩
      subst e2
      go_wp2
      exact bodyPost_ret (v := .tuple #[Wd 0, .int .i64 s]) (by simp [results, Try.results26, go_sem, hi, lo]) rfl ⟨rfl, G0⟩
  · have c1 := cA _ rfl
    have E : distE a b = chk a a.length := by unfold distE; rw [if_neg h1]
    have E2 : distV a b = 0 := by unfold distV; rw [E, if_neg h1]
    have h3 : (chk a a.length == 0) = false := by rw [beq_eq_false_iff_ne]; exact h1
    rw [E, E2]
    clear cA cB h1 E E2 U V
    generalize chk a a.length = s at *
    generalize b.length = m at *
    generalize a.length = n at *
    go_enter Try.func26, Try.ntmps26
    go_wp2_with fail
    refine c1.mono ?_
    rintro e w' ⟨rfl, e2⟩
    subst e2
    go_wp2
    exact bodyPost_ret (v := .tuple #[Wd 0, .int .i64 s]) (by simp [results, Try.results26, go_sem, hi, lo]) rfl ⟨rfl, G0⟩
end Go.Proofs.Ytblfmhdcgmkpgaa
