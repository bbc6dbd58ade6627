/- Proved: the law FlatWhole answers true for all rows, every vector, k and number more, and leaves them as they were; there is no condition on the input. -/
import Derived.Test.YteaeaoekaoedoaaLift
import Derived.Test.YteaeaoekaoedoaaFWhole
namespace Go.Proofs.Yteaeaoekaoedoaa
open Go.ChangeShapes Go.WideShapes Go.ChangeAt Go.RowKit Go.Joins

set_option maxHeartbeats 1000000 in
theorem whole_big {w : World} {v u : Value} {rs : List Rw} {q : List Int} (hv : RdW w v rs) (hu : RdI w u q) (hlen : rs.length ≤ 9223372036854775807) (hb : 2000 < rs.length) (k more : Int) :
    Calls Try.prog 4 #[v, u, .int .i64 k, .int .i64 more] w fun e w' => e = .returned (.bool true) ∧ Gb w w' := by
  have cbig := big_c hv hu hlen
  obtain ⟨av, cv, rfl, _⟩ := hv
  obtain ⟨au, cu, rfl, _⟩ := hu
  generalize rs.length = n at *
  generalize q.length = m at *
  go_enter Try.func4, Try.ntmps4
  go_wp2_with fail
  refine cbig.mono ?_
  rintro e w' ⟨b, rfl, hb', e2⟩
  subst e2
  clear cbig
  cases b with
  | true =>
    go_wp2
    go_ret
    exact ⟨rfl, Below.refl _ _⟩
  | false => exact absurd (hb' rfl).1 (by omega)
theorem whole_any {w : World} {v u : Value} {rs : List Rw} {q : List Int} (hv : RdW w v rs) (hcap : ∀ a n c, v = .slice a n c → n ≤ c) (hu : RdI w u q) (hlen : rs.length ≤ 9223372036854775807) (hwf : ∀ i, i < rs.length → (Lit.int .i64 rs[i]!.1).wf = true) (k more : Int) :
    Calls Try.prog 4 #[v, u, .int .i64 k, .int .i64 more] w fun e w' => e = .returned (.bool true) ∧ Gb w w' := by
  by_cases h : 2000 < rs.length
  · exact whole_big hv hu hlen h k more
  · have hv' := hv
    obtain ⟨a, cap, rfl, _⟩ := hv
    exact whole_law hv' (hcap _ _ _ rfl) hu ⟨by omega, hwf⟩ k more

set_option maxRecDepth 100000 in
theorem flatWhole_lifted (os : Os) (started : os.Started) (H : Type) (enc : TypeId × Value → H) :
    ReturnsInHanded {} Try.checked os 4 .any (Rows.flatWholeSpec.pre6 enc Try.prog Try.f4 Rows.flatWholeRow.domain false) (Rows.flatWholeSpec.post enc Try.prog Try.f4 false true false false) := by
  refine returnsInHanded_of_change (C := Try.checked) Try.own started (by kernel_rfl) Try.func4
    (ChangeSpec.witness6 (enc := enc) (C := Try.checked) false ⟨#[], #[.slice none 0 0, .slice none 0 0, .int .i64 0, .int .i64 0], []⟩ 4 (by kernel_rfl) (by kernel_rfl) (by kernel_rfl) (by kernel_rfl)) ?_
  intro W base args ds gs before hval0 hW _ _
  have hval : ∀ (j : Nat) t v, Try.f4.params[j]? = some t → args[j]? = some v → Value.okWide Try.prog W .any base t v := hval0
  have hW' := hW
  obtain ⟨p, q, hA0, hV, rfl, _, _⟩ := hW
  have hA : DataW.TrodAll enc Try.prog W 0 (fun _ => true) true Try.f4.params.toList args.toList ds p := hA0
  rw [Try.params4] at hA hval
  obtain ⟨v0, v1, v2, v3, d0, d1, d2, d3, p0, p1, p2, p3, rfl, rfl, rfl, h0, h1, h2, h3⟩ := trodAll_four hA
  obtain ⟨rfl, rfl⟩ := trodVars_none hV
  obtain ⟨rs, hr, hl, hwf, _, hcap⟩ := open_rows (hval 0 22 v0 rfl rfl) h0
  obtain ⟨c, hc, _⟩ := open_ints (hval 1 23 v1 rfl rfl) h1
  obtain ⟨i, rfl, rfl, rfl, _⟩ := open_int Try.underlying3 (hval 2 3 v2 rfl rfl) h2
  obtain ⟨j, rfl, rfl, rfl, _⟩ := open_int Try.underlying3 (hval 3 3 v3 rfl rfl) h3
  refine (whole_any hr hcap hc (Nat.le_trans hl (by decide)) hwf i j).mono fun e W' ⟨he, hg⟩ => ?_
  subst he
  exact ⟨_, rfl, law_post hW' rfl (by kernel_rfl) rfl (by rw [Try.params4]; intro t ht; simp at ht; rcases ht with rfl | rfl | rfl | rfl <;> exact ⟨by kernel_rfl, of_decide_eq_true (by kernel_rfl)⟩) hg⟩

theorem flatWhole_holds : Rows.FlatWholeSaid :=
  OpenClaim.holds_of_wide 4 Try.f4 rfl rfl rfl rfl rfl rfl rfl ⟨rfl, rfl, rfl, rfl, rfl⟩ rfl rfl rfl rfl rfl (by kernel_rfl) Try.func4 (by kernel_rfl)
    (of_decide_eq_true (by kernel_rfl)) (by unfold Func.isWrapper; first | (rw [if_pos (by decide +kernel)]; kernel_rfl) | (rw [if_neg (by decide +kernel)]; exact ⟨rfl, rfl⟩))
    (fun os started H enc _ => flatWhole_lifted os started H enc)
#print axioms flatWhole_holds

end Go.Proofs.Yteaeaoekaoedoaa
