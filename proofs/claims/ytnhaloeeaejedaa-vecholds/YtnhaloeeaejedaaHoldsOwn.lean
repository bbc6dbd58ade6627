/- Proved: the law VecHolds answers true for all rows, every centre and every coordinate, and leaves them as they were; there is no condition on the input. -/
import Derived.Test.YtnhaloeeaejedaaLift
import Derived.Test.YtnhaloeeaejedaaHoldsZ
namespace Go.Proofs.Ytnhaloeeaejedaa
open Go.ChangeShapes Go.WideShapes Go.ChangeAt Go.RowKit Go.Joins

theorem holds_any {w : World} {u v : Value} {c : List Int} {rs : List Rw} (p : Int) (hu : RdI w u c) (h : RdW w v rs) (hlen : rs.length ≤ 9223372036854775807) (hwf : ∀ i, i < rs.length → (Lit.int .i64 rs[i]!.1).wf = true) :
    Calls Try.prog 8 #[v, u, .int .i64 p] w fun e w' => e = .returned (.bool true) ∧ Gb w w' := by
  by_cases h1 : 2000 < rs.length
  · exact holds_big p hu h hlen (.inl h1)
  by_cases h2 : 65536 < c.length
  · exact holds_big p hu h hlen (.inr h2)
  by_cases h3 : boxE rs c.length = 0
  · by_cases h4 : ballE c rs = 0
    · exact holds_yes p hu h (by omega) hwf (by omega) (by omega) h3 h4
    · exact holds_no p hu h (by omega) hwf (by omega) (by omega) (.inr h4)
  · exact holds_no p hu h (by omega) hwf (by omega) (by omega) (.inl h3)

set_option maxRecDepth 100000 in
theorem vecHolds_lifted (os : Os) (started : os.Started) (H : Type) (enc : TypeId × Value → H) :
    ReturnsInHanded {} Try.checked os 8 .any (Rows.vecHoldsSpec.pre6 enc Try.prog Try.f8 Rows.vecHoldsRow.domain false) (Rows.vecHoldsSpec.post enc Try.prog Try.f8 false true false false) := by
  refine returnsInHanded_of_change (C := Try.checked) Try.own started (by kernel_rfl) Try.func8
    (ChangeSpec.witness6 (enc := enc) (C := Try.checked) false ⟨#[], #[.slice none 0 0, .slice none 0 0, .int .i64 0], []⟩ 8 (by kernel_rfl) (by kernel_rfl) (by kernel_rfl) (by kernel_rfl)) ?_
  intro W base args ds gs before hval0 hW _ _
  have hval : ∀ (j : Nat) t v, Try.f8.params[j]? = some t → args[j]? = some v → Value.okWide Try.prog W .any base t v := hval0
  have hW' := hW
  obtain ⟨p, q, hA0, hV, rfl, _, _⟩ := hW
  have hA : DataW.TrodAll enc Try.prog W 0 (fun _ => true) true Try.f8.params.toList args.toList ds p := hA0
  rw [Try.params8] at hA hval
  obtain ⟨v0, v1, v2, d0, d1, d2, p0, p1, p2, rfl, rfl, rfl, h0, h1, h2⟩ := trodAll_three hA
  obtain ⟨rfl, rfl⟩ := trodVars_none hV
  obtain ⟨rs, hr, hl, hwf, _⟩ := open_rows (hval 0 43 v0 rfl rfl) h0
  obtain ⟨c, hc, _⟩ := open_ints (hval 1 22 v1 rfl rfl) h1
  obtain ⟨i, rfl, rfl, rfl, _⟩ := open_int Try.underlying3 (hval 2 3 v2 rfl rfl) h2
  refine (holds_any i hc hr (Nat.le_trans hl (by decide)) hwf).mono fun e W' ⟨he, hg⟩ => ?_
  subst he
  exact ⟨_, rfl, law_post hW' rfl (by kernel_rfl) rfl (by rw [Try.params8]; intro t ht; simp at ht; rcases ht with rfl | rfl | rfl <;> exact ⟨by kernel_rfl, of_decide_eq_true (by kernel_rfl)⟩) hg⟩

theorem vecHolds_holds : Rows.VecHoldsSaid :=
  OpenClaim.holds_of_wide 8 Try.f8 rfl rfl rfl rfl rfl rfl rfl ⟨rfl, rfl, rfl, rfl, rfl⟩ rfl rfl rfl rfl rfl (by kernel_rfl) Try.func8 (by kernel_rfl)
    (of_decide_eq_true (by kernel_rfl)) (by unfold Func.isWrapper; first | (rw [if_pos (by decide +kernel)]; kernel_rfl) | (rw [if_neg (by decide +kernel)]; exact ⟨rfl, rfl⟩))
    (fun os started H enc _ => vecHolds_lifted os started H enc)
#print axioms vecHolds_holds

end Go.Proofs.Ytnhaloeeaejedaa
