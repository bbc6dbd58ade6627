/- Proved: the law FlatSearch answers true for all rows, every vector, every k and every budget, and leaves them as they were; there is no condition on the input. -/
import Derived.Test.YteaeaoekaoedoaaGreatRows
import Derived.Test.YteaeaoekaoedoaaGreatG7
import Derived.Test.YteaeaoekaoedoaaGreatFSrcL
namespace Go.Proofs.YteaeaoekaoedoaaGreat
open Go.ChangeShapes Go.WideShapes Go.ChangeAt Go.RowKit Go.Joins

theorem search_any {w : World} {v u : Value} {rs : List Rw} {q : List Int} (hv : RdW w v rs) (hcap : ∀ a n c, v = .slice a n c → n ≤ c) (hu : RdI w u q) (hwf : Wf rs) (k b : Int) :
    Calls Tryz.prog 5 #[v, u, .int .i64 k, .int .i64 b] w fun e w' => e = .returned (.bool true) ∧ Gb w w' := by
  by_cases hz : searchE rs q k b = 0
  · obtain ⟨h1, h2, _⟩ := searchE_zero.1 hz
    obtain ⟨_, h3, _⟩ := topE_zero.1 h1
    obtain ⟨K, rfl⟩ := Int.eq_ofNat_of_zero_le (show 0 ≤ k by omega)
    obtain ⟨b', rfl⟩ := Int.eq_ofNat_of_zero_le h2
    have hv2 := hv
    obtain ⟨a, cap, rfl, _⟩ := hv2
    exact search_law_yes hv (hcap _ _ _ rfl) hu hwf K b' hz
  · exact search_law_no hv hu hwf k b hz
set_option maxRecDepth 100000 in
theorem flatSearch_lifted (os : Os) (started : os.Started) (H : Type) (enc : TypeId × Value → H) :
    ReturnsInHanded {} Tryz.checked os 5 .any (Rows.flatSearchSpec.pre6 enc Tryz.prog Tryz.f5 Rows.flatSearchRow.domain false) (Rows.flatSearchSpec.post enc Tryz.prog Tryz.f5 false true false false) := by
  refine returnsInHanded_of_change_sized (C := Tryz.checked) Tryz.own started (by kernel_rfl) Tryz.func5
    (ChangeSpec.witness6 (enc := enc) (C := Tryz.checked) false ⟨#[], #[.slice none 0 0, .slice none 0 0, .int .i64 0, .int .i64 0], []⟩ 5 (by kernel_rfl) (by kernel_rfl) (by kernel_rfl) (by kernel_rfl)) ?_
  intro W base args ds gs before hval0 hW _ hsz0 _
  have hsz : (DataW.weightsEach Tryz.prog (Tryz.f5.params.toList ++ Rows.flatSearchSpec.plain.varTypes Tryz.prog) (ds ++ gs)).all (· ≤ reachBytes) = true := hsz0
  have hval : ∀ (j : Nat) t v, Tryz.f5.params[j]? = some t → args[j]? = some v → Value.okWide Tryz.prog W .any base t v := hval0
  have hW' := hW
  obtain ⟨p, q, hA0, hV, rfl, _, _⟩ := hW
  have hA : DataW.TrodAll enc Tryz.prog W 0 (fun _ => true) true Tryz.f5.params.toList args.toList ds p := hA0
  rw [Tryz.params5] at hA hval hsz
  obtain ⟨v0, v1, v2, v3, d0, d1, d2, d3, p0, p1, p2, p3, rfl, rfl, rfl, h0, h1, h2, h3⟩ := trodAll_four hA
  obtain ⟨rfl, rfl⟩ := trodVars_none hV
  obtain ⟨rs, hr, hl, hwf, hrow, hcap⟩ := open_rows_sz (hval 0 22 v0 rfl rfl) h0 (fun n hn => of_decide_eq_true (List.all_eq_true.1 hsz n (DataW.weights_mem_each (j := 0) (t := 22) rfl rfl n hn)))
  obtain ⟨c, hc, _⟩ := open_ints (hval 1 23 v1 rfl rfl) h1
  obtain ⟨k, rfl, rfl, rfl, _⟩ := open_int Tryz.underlying3 (hval 2 3 v2 rfl rfl) h2
  obtain ⟨d, rfl, rfl, rfl, _⟩ := open_int Tryz.underlying3 (hval 3 3 v3 rfl rfl) h3
  have hx : reachBytes ≤ 4611686018427387904 := by decide
  refine (search_any hr hcap hc ⟨Nat.le_trans hl hx, hwf⟩ k d).mono fun e W' ⟨he, hg⟩ => ?_
  subst he
  exact ⟨_, rfl, law_post hW' rfl (by kernel_rfl) rfl (by rw [Tryz.params5]; intro t ht; simp at ht; rcases ht with rfl | rfl | rfl | rfl <;> exact ⟨by kernel_rfl, of_decide_eq_true (by kernel_rfl)⟩) hg⟩

theorem flatSearch_holds : Rows.FlatSearchSaid :=
  OpenClaim.holds_of_wide 5 Tryz.f5 rfl rfl rfl rfl rfl rfl rfl ⟨rfl, rfl, rfl, rfl, rfl⟩ rfl rfl rfl rfl rfl (by kernel_rfl) Tryz.func5 (by kernel_rfl)
    (of_decide_eq_true (by kernel_rfl)) (by unfold Func.isWrapper; first | (rw [if_pos (by decide +kernel)]; kernel_rfl) | (rw [if_neg (by decide +kernel)]; exact ⟨rfl, rfl⟩))
    (fun os started H enc _ => flatSearch_lifted os started H enc)
#print axioms flatSearch_holds

end Go.Proofs.YteaeaoekaoedoaaGreat
