/- Proved: the law FlatNone answers true for all rows, every vector and every k, and leaves them as they were; there is no condition on the input. -/
import Derived.Test.YteaeaoekaoedoaaGreatLift
import Derived.Test.YteaeaoekaoedoaaGreatFNoneL
namespace Go.Proofs.YteaeaoekaoedoaaGreat
open Go.ChangeShapes Go.WideShapes Go.ChangeAt Go.RowKit Go.Joins

set_option maxHeartbeats 1000000 in
theorem none_big {w : World} {v u : Value} {rs : List Rw} {q : List Int} (hv : RdW w v rs) (hu : RdI w u q) (hlen : rs.length ≤ 9223372036854775807) (hb : 2000 < rs.length) (k : Int) :
    Calls Tryz.prog 6 #[v, u, .int .i64 k] w fun e w' => e = .returned (.bool true) ∧ Gb w w' := by
  have cbig := big_c hv hu hlen
  obtain ⟨av, cv, rfl, _⟩ := hv
  obtain ⟨au, cu, rfl, _⟩ := hu
  generalize rs.length = n at *
  generalize q.length = m at *
  go_enter Tryz.func6, Tryz.ntmps6
  go_wp2_with fail
  refine cbig.mono ?_
  rintro e w' ⟨b, rfl, hb', e2⟩
  subst e2
  clear cbig
  cases b with
  | true =>
    go_wp2
    go_ret
    exact ⟨rfl, Below.refl _ _⟩
  | false => exact absurd (hb' rfl).1 (by omega)
theorem none_any {w : World} {v u : Value} {rs : List Rw} {q : List Int} (hv : RdW w v rs) (hu : RdI w u q) (hlen : rs.length ≤ 9223372036854775807) (hwf : ∀ i, i < rs.length → (Lit.int .i64 rs[i]!.1).wf = true) (k : Int) :
    Calls Tryz.prog 6 #[v, u, .int .i64 k] w fun e w' => e = .returned (.bool true) ∧ Gb w w' := by
  by_cases h : 2000 < rs.length
  · exact none_big hv hu hlen h k
  · exact none_law hv hu ⟨by omega, hwf⟩ k

set_option maxRecDepth 100000 in
theorem flatNone_lifted (os : Os) (started : os.Started) (H : Type) (enc : TypeId × Value → H) :
    ReturnsInHanded {} Tryz.checked os 6 .any (Rows.flatNoneSpec.pre6 enc Tryz.prog Tryz.f6 Rows.flatNoneRow.domain false) (Rows.flatNoneSpec.post enc Tryz.prog Tryz.f6 false true false false) := by
  refine returnsInHanded_of_change (C := Tryz.checked) Tryz.own started (by kernel_rfl) Tryz.func6
    (ChangeSpec.witness6 (enc := enc) (C := Tryz.checked) false ⟨#[], #[.slice none 0 0, .slice none 0 0, .int .i64 0], []⟩ 6 (by kernel_rfl) (by kernel_rfl) (by kernel_rfl) (by kernel_rfl)) ?_
  intro W base args ds gs before hval0 hW _ _
  have hval : ∀ (j : Nat) t v, Tryz.f6.params[j]? = some t → args[j]? = some v → Value.okWide Tryz.prog W .any base t v := hval0
  have hW' := hW
  obtain ⟨p, q, hA0, hV, rfl, _, _⟩ := hW
  have hA : DataW.TrodAll enc Tryz.prog W 0 (fun _ => true) true Tryz.f6.params.toList args.toList ds p := hA0
  rw [Tryz.params6] at hA hval
  obtain ⟨v0, v1, v2, d0, d1, d2, p0, p1, p2, rfl, rfl, rfl, h0, h1, h2⟩ := trodAll_three hA
  obtain ⟨rfl, rfl⟩ := trodVars_none hV
  obtain ⟨rs, hr, hl, hwf, _⟩ := open_rows (hval 0 22 v0 rfl rfl) h0
  obtain ⟨c, hc, _⟩ := open_ints (hval 1 23 v1 rfl rfl) h1
  obtain ⟨i, rfl, rfl, rfl, _⟩ := open_int Tryz.underlying3 (hval 2 3 v2 rfl rfl) h2
  refine (none_any hr hc (Nat.le_trans hl (by decide)) hwf i).mono fun e W' ⟨he, hg⟩ => ?_
  subst he
  exact ⟨_, rfl, law_post hW' rfl (by kernel_rfl) rfl (by rw [Tryz.params6]; intro t ht; simp at ht; rcases ht with rfl | rfl | rfl <;> exact ⟨by kernel_rfl, of_decide_eq_true (by kernel_rfl)⟩) hg⟩

theorem flatNone_holds : Rows.FlatNoneSaid :=
  OpenClaim.holds_of_wide 6 Tryz.f6 rfl rfl rfl rfl rfl rfl rfl ⟨rfl, rfl, rfl, rfl, rfl⟩ rfl rfl rfl rfl rfl (by kernel_rfl) Tryz.func6 (by kernel_rfl)
    (of_decide_eq_true (by kernel_rfl)) (by unfold Func.isWrapper; first | (rw [if_pos (by decide +kernel)]; kernel_rfl) | (rw [if_neg (by decide +kernel)]; exact ⟨rfl, rfl⟩))
    (fun os started H enc _ => flatNone_lifted os started H enc)
#print axioms flatNone_holds

end Go.Proofs.YteaeaoekaoedoaaGreat
