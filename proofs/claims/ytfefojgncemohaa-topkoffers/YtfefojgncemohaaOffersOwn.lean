/- Proved: the law TopkOffers answers true for every size and list of hits, and leaves them as they were; there is no condition on the input. -/
import Derived.Test.YtfefojgncemohaaLift
import Derived.Test.YtfefojgncemohaaOffers
namespace Go.Proofs.Ytfefojgncemohaa
open Go.ChangeShapes Go.WideShapes Go.ChangeAt Go.RowKit Go.Joins

theorem topkOffers_any (k : Int) {w : World} {v : Value} {L : List Ht} (hr : Rd w v L) :
    Calls Try.prog 4 #[.int .i64 k, v] w fun e w' => e = .returned (.bool true) ∧ Gr w w' := by
  by_cases h1 : 3000 < L.length
  · obtain ⟨a, cap, rfl⟩ := hr.form'
    exact offers_long k a L.length cap h1 w
  by_cases h2 : k < 1
  · obtain ⟨a, cap, rfl⟩ := hr.form'
    exact offers_bad1 k h2 a L.length cap (by omega) w
  by_cases h3 : 64 < k
  · obtain ⟨a, cap, rfl⟩ := hr.form'
    exact offers_bad2 k h3 a L.length cap (by omega) w
  obtain ⟨n, rfl⟩ := Int.eq_ofNat_of_zero_le (show 0 ≤ k by omega)
  exact offers_ok n (by omega) (by omega) hr (by omega)

set_option maxRecDepth 100000 in
theorem topkOffers_lifted (os : Os) (started : os.Started) (H : Type) (enc : TypeId × Value → H) :
    ReturnsInHanded {} Try.checked os 4 .any (Rows.topkOffersSpec.pre6 enc Try.prog Try.f4 Rows.topkOffersRow.domain false) (Rows.topkOffersSpec.post enc Try.prog Try.f4 false true false false) := by
  refine returnsInHanded_of_change (C := Try.checked) Try.own started (by kernel_rfl) Try.func4
    (ChangeSpec.witness6 (enc := enc) (C := Try.checked) false ⟨#[], #[.int .i64 0, .slice none 0 0], []⟩ 8 (by kernel_rfl) (by kernel_rfl) (by kernel_rfl) (by kernel_rfl)) ?_
  intro W base args ds gs before hval0 hW _ _
  have hval : ∀ (j : Nat) t v, Try.f4.params[j]? = some t → args[j]? = some v → Value.okWide Try.prog W .any base t v := hval0
  have hW' := hW
  obtain ⟨p, q, hA0, hV, rfl, _, _⟩ := hW
  have hA : DataW.TrodAll enc Try.prog W 0 (fun _ => true) true Try.f4.params.toList args.toList ds p := hA0
  rw [Try.params4] at hA hval
  obtain ⟨v0, v1, d0, d1, p0, p1, rfl, rfl, rfl, h0, h1⟩ := trodAll_two hA
  obtain ⟨rfl, rfl⟩ := trodVars_none hV
  obtain ⟨k, rfl, rfl, rfl, _⟩ := open_int Try.underlying3 (hval 0 3 v0 rfl rfl) h0
  obtain ⟨L, hr⟩ := open_hits (hval 1 30 v1 rfl rfl) h1
  refine (topkOffers_any k hr).mono fun e W' ⟨he, hg⟩ => ?_
  subst he
  exact ⟨_, rfl, law_post hW' rfl (by kernel_rfl) rfl (by rw [Try.params4]; intro t ht; simp at ht; rcases ht with rfl | rfl <;> exact ⟨by kernel_rfl, of_decide_eq_true (by kernel_rfl)⟩) hg⟩

theorem topkOffers_holds : Rows.TopkOffersSaid :=
  OpenClaim.holds_of_wide 4 Try.f4 rfl rfl rfl rfl rfl rfl rfl ⟨rfl, rfl, rfl, rfl, rfl⟩ rfl rfl rfl rfl rfl (by kernel_rfl) Try.func4 (by kernel_rfl)
    (of_decide_eq_true (by kernel_rfl)) (by unfold Func.isWrapper; first | (rw [if_pos (by decide +kernel)]; kernel_rfl) | (rw [if_neg (by decide +kernel)]; exact ⟨rfl, rfl⟩))
    (fun os started H enc _ => topkOffers_lifted os started H enc)
#print axioms topkOffers_holds

end Go.Proofs.Ytfefojgncemohaa
