/- Proved: the law FlatOrder answers true for all rows, every order, vector and k, and leaves them as they were; there is no condition on the input. -/
import Derived.Test.YteaeaoekaoedoaaLift
import Derived.Test.YteaeaoekaoedoaaFOrdL
namespace Go.Proofs.Yteaeaoekaoedoaa
open Go.ChangeShapes Go.WideShapes Go.ChangeAt Go.RowKit Go.Joins

set_option maxHeartbeats 1000000 in
theorem order_big {w : World} {v d u : Value} {rs : List Rw} {od q : List Int} (hv : RdW w v rs) (hd : RdI w d od) (hu : RdI w u q) (hlen : rs.length ≤ 9223372036854775807) (hb : 2000 < rs.length) (k : Int) :
    Calls Try.prog 3 #[v, d, u, .int .i64 k] w fun e w' => e = .returned (.bool true) ∧ Gb w w' := by
  have cbig := big_c hv hu hlen
  obtain ⟨av, cv, rfl, _⟩ := hv
  obtain ⟨au, cu, rfl, _⟩ := hu
  obtain ⟨ad, cd, rfl, _⟩ := hd
  generalize rs.length = n at *
  generalize q.length = m at *
  generalize od.length = m2 at *
  go_enter Try.func3, Try.ntmps3
  go_wp2_with fail
  refine cbig.mono ?_
  rintro e w' ⟨b, rfl, hb', e2⟩
  subst e2
  clear cbig
  cases b with
  | true =>
    go_wp2
    go_ret
    exact ⟨rfl, Below.refl _ _⟩
  | false => exact absurd (hb' rfl).1 (by omega)
theorem order_any {w : World} {v d u : Value} {rs : List Rw} {od q : List Int} (hv : RdW w v rs) (hcap : ∀ a n c, v = .slice a n c → n ≤ c) (hd : RdI w d od) (hu : RdI w u q) (hlen : rs.length ≤ 9223372036854775807) (hwf : ∀ i, i < rs.length → (Lit.int .i64 rs[i]!.1).wf = true) (k : Int) :
    Calls Try.prog 3 #[v, d, u, .int .i64 k] w fun e w' => e = .returned (.bool true) ∧ Gb w w' := by
  by_cases h : 2000 < rs.length
  · exact order_big hv hd hu hlen h k
  · have hv' := hv
    obtain ⟨a, cap, rfl, _⟩ := hv
    exact order_law hv' (hcap _ _ _ rfl) hd hu ⟨by omega, hwf⟩ k

set_option maxRecDepth 100000 in
theorem flatOrder_lifted (os : Os) (started : os.Started) (H : Type) (enc : TypeId × Value → H) :
    ReturnsInHanded {} Try.checked os 3 .any (Rows.flatOrderSpec.pre6 enc Try.prog Try.f3 Rows.flatOrderRow.domain false) (Rows.flatOrderSpec.post enc Try.prog Try.f3 false true false false) := by
  refine returnsInHanded_of_change (C := Try.checked) Try.own started (by kernel_rfl) Try.func3
    (ChangeSpec.witness6 (enc := enc) (C := Try.checked) false ⟨#[], #[.slice none 0 0, .slice none 0 0, .slice none 0 0, .int .i64 0], []⟩ 3 (by kernel_rfl) (by kernel_rfl) (by kernel_rfl) (by kernel_rfl)) ?_
  intro W base args ds gs before hval0 hW _ _
  have hval : ∀ (j : Nat) t v, Try.f3.params[j]? = some t → args[j]? = some v → Value.okWide Try.prog W .any base t v := hval0
  have hW' := hW
  obtain ⟨p, q, hA0, hV, rfl, _, _⟩ := hW
  have hA : DataW.TrodAll enc Try.prog W 0 (fun _ => true) true Try.f3.params.toList args.toList ds p := hA0
  rw [Try.params3] at hA hval
  obtain ⟨v0, v1, v2, v3, d0, d1, d2, d3, p0, p1, p2, p3, rfl, rfl, rfl, h0, h1, h2, h3⟩ := trodAll_four hA
  obtain ⟨rfl, rfl⟩ := trodVars_none hV
  obtain ⟨rs, hr, hl, hwf, _, hcap⟩ := open_rows (hval 0 22 v0 rfl rfl) h0
  obtain ⟨od, hod, _⟩ := open_ints (hval 1 23 v1 rfl rfl) h1
  obtain ⟨c, hc, _⟩ := open_ints (hval 2 23 v2 rfl rfl) h2
  obtain ⟨j, rfl, rfl, rfl, _⟩ := open_int Try.underlying3 (hval 3 3 v3 rfl rfl) h3
  refine (order_any hr hcap hod hc (Nat.le_trans hl (by decide)) hwf j).mono fun e W' ⟨he, hg⟩ => ?_
  subst he
  exact ⟨_, rfl, law_post hW' rfl (by kernel_rfl) rfl (by rw [Try.params3]; intro t ht; simp at ht; rcases ht with rfl | rfl | rfl | rfl <;> exact ⟨by kernel_rfl, of_decide_eq_true (by kernel_rfl)⟩) hg⟩

theorem flatOrder_holds : Rows.FlatOrderSaid :=
  OpenClaim.holds_of_wide 3 Try.f3 rfl rfl rfl rfl rfl rfl rfl ⟨rfl, rfl, rfl, rfl, rfl⟩ rfl rfl rfl rfl rfl (by kernel_rfl) Try.func3 (by kernel_rfl)
    (of_decide_eq_true (by kernel_rfl)) (by unfold Func.isWrapper; first | (rw [if_pos (by decide +kernel)]; kernel_rfl) | (rw [if_neg (by decide +kernel)]; exact ⟨rfl, rfl⟩))
    (fun os started H enc _ => flatOrder_lifted os started H enc)
#print axioms flatOrder_holds

end Go.Proofs.Yteaeaoekaoedoaa
