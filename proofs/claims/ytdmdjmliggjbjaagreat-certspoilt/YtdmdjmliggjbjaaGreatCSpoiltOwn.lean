/- Proved: the law CertSpoilt answers true for all rows, every vector, every k, every answer and every place, and leaves them as they were; there is no condition on the input. -/
import Derived.Test.YtdmdjmliggjbjaaGreatRows
import Derived.Test.YtdmdjmliggjbjaaGreatCuCSpl
namespace Go.Proofs.YtdmdjmliggjbjaaGreat
open Go.ChangeShapes Go.WideShapes Go.ChangeAt Go.RowKit Go.Joins

set_option maxRecDepth 100000 in
theorem certSpoilt_lifted (os : Os) (started : os.Started) (H : Type) (enc : TypeId × Value → H) :
    ReturnsInHanded {} Tryz.checked os 5 .any (Rows.certSpoiltSpec.pre6 enc Tryz.prog Tryz.f5 Rows.certSpoiltRow.domain false) (Rows.certSpoiltSpec.post enc Tryz.prog Tryz.f5 false true false false) := by
  refine returnsInHanded_of_change_sized (C := Tryz.checked) Tryz.own started (by kernel_rfl) Tryz.func5
    (ChangeSpec.witness6 (enc := enc) (C := Tryz.checked) false ⟨#[], #[.slice none 0 0, .slice none 0 0, .int .i64 0, .agg #[.slice none 0 0, .slice none 0 0, .slice none 0 0], .int .i64 0], []⟩ 5 (by kernel_rfl) (by kernel_rfl) (by kernel_rfl) (by kernel_rfl)) ?_
  intro W base args ds gs before hval0 hW _ hsz0 _
  have hsz : (DataW.weightsEach Tryz.prog (Tryz.f5.params.toList ++ Rows.certSpoiltSpec.plain.varTypes Tryz.prog) (ds ++ gs)).all (· ≤ reachBytes) = true := hsz0
  have hval : ∀ (j : Nat) t v, Tryz.f5.params[j]? = some t → args[j]? = some v → Value.okWide Tryz.prog W .any base t v := hval0
  have hW' := hW
  obtain ⟨p, q, hA0, hV, rfl, _, _⟩ := hW
  have hA : DataW.TrodAll enc Tryz.prog W 0 (fun _ => true) true Tryz.f5.params.toList args.toList ds p := hA0
  rw [Tryz.params5] at hA hval hsz
  obtain ⟨v0, r0, d0, s0, p0, q0, hx0, rfl, rfl, h0, hA⟩ := trodAll_cons hA
  obtain ⟨v1, v2, v3, v4, d1, d2, d3, d4, p1, p2, p3, p4, hr4, rfl, rfl, h1, h2, h3, h4⟩ := trodAll_four hA
  have hr4 : r0 = [v1, v2, v3, v4] := congrArg Array.toList hr4
  subst hr4
  have hargs : args = #[v0, v1, v2, v3, v4] := by
    obtain ⟨l⟩ := args
    simp only at hx0
    rw [hx0]
  subst hargs
  obtain ⟨rfl, rfl⟩ := trodVars_none hV
  obtain ⟨rs, hr, hl, hwf, hrow, _⟩ := open_rows_sz (hval 0 22 v0 rfl rfl) h0 (fun n hn => of_decide_eq_true (List.all_eq_true.1 hsz n (DataW.weights_mem_each (j := 0) (t := 22) rfl rfl n hn)))
  obtain ⟨c, hc, hcl⟩ := open_ints_sz (hval 1 23 v1 rfl rfl) h1 (fun n hn => of_decide_eq_true (List.all_eq_true.1 hsz n (DataW.weights_mem_each (j := 1) (t := 23) rfl rfl n hn)))
  obtain ⟨k, rfl, rfl, rfl, _⟩ := open_int Tryz.underlying3 (hval 2 3 v2 rfl rfl) h2
  obtain ⟨vh, vs, vr, a, rfl, ra, ia⟩ := open_ansN (hval 3 27 v3 rfl rfl) h3 (fun n hn => of_decide_eq_true (List.all_eq_true.1 hsz n (DataW.weights_mem_each (j := 3) (t := 27) rfl rfl n hn)))
  obtain ⟨at0, rfl, rfl, rfl, wat⟩ := open_int Tryz.underlying3 (hval 4 3 v4 rfl rfl) h4
  have hx : reachBytes ≤ 4611686018427387904 := by decide
  refine (spoilt_law hr hc ra ia ⟨Nat.le_trans hl hx, hwf⟩ hcl (KWf.of wat).2).mono fun e W' ⟨he, hg⟩ => ?_
  subst he
  exact ⟨_, rfl, law_post hW' rfl (by kernel_rfl) rfl (by rw [Tryz.params5]; intro t ht; simp at ht; rcases ht with rfl | rfl | rfl | rfl | rfl <;> exact ⟨by kernel_rfl, of_decide_eq_true (by kernel_rfl)⟩) hg⟩

theorem certSpoilt_holds : Rows.CertSpoiltSaid :=
  OpenClaim.holds_of_wide 5 Tryz.f5 rfl rfl rfl rfl rfl rfl rfl ⟨rfl, rfl, rfl, rfl, rfl⟩ rfl rfl rfl rfl rfl (by kernel_rfl) Tryz.func5 (by kernel_rfl)
    (of_decide_eq_true (by kernel_rfl)) (by unfold Func.isWrapper; first | (rw [if_pos (by decide +kernel)]; kernel_rfl) | (rw [if_neg (by decide +kernel)]; exact ⟨rfl, rfl⟩))
    (fun os started H enc _ => certSpoilt_lifted os started H enc)
#print axioms certSpoilt_holds

end Go.Proofs.YtdmdjmliggjbjaaGreat
