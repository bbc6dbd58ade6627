/- Proved: the law FlatRange answers true for all rows, every vector and every radius, and leaves them as they were; there is no condition on the input. -/
import Derived.Test.YteaeaoekaoedoaaGreatLift
import Derived.Test.YteaeaoekaoedoaaGreatFRefL
namespace Go.Proofs.YteaeaoekaoedoaaGreat
open Go.ChangeShapes Go.WideShapes Go.ChangeAt Go.RowKit Go.Joins

set_option maxHeartbeats 1000000 in
theorem range_big {w : World} {v u : Value} {rs : List Rw} {q : List Int} (hv : RdW w v rs) (hu : RdI w u q) (hlen : rs.length ≤ 9223372036854775807) (hb : 2000 < rs.length) (R : Nat) :
    Calls Tryz.prog 4 #[v, u, .agg #[.int .u64 (hi R), .int .u64 (lo R)]] w fun e w' => e = .returned (.bool true) ∧ Gb w w' := by
  have G0 : Gb w (w.alloc (.cells #[.int .u64 (hi R), .int .u64 (lo R)] 39)) := gb_alloc (Below.refl _ _) _
  have cbig := big_c (hv.gb G0) (hu.gb G0) hlen
  obtain ⟨av, cv, rfl, _⟩ := hv
  obtain ⟨au, cu, rfl, _⟩ := hu
  generalize rs.length = n at *
  generalize q.length = m at *
  go_enter Tryz.func4, Tryz.ntmps4
  go_wp2_with fail
  refine cbig.mono ?_
  rintro e w' ⟨b, rfl, hb', e2⟩
  subst e2
  clear cbig
  cases b with
  | true =>
    go_wp2
    go_ret
    exact ⟨rfl, G0⟩
  | false => exact absurd (hb' rfl).1 (by omega)
theorem range_any {w : World} {v u : Value} {rs : List Rw} {q : List Int} (hv : RdW w v rs) (hu : RdI w u q) (hlen : rs.length ≤ 9223372036854775807) (hwf : ∀ i, i < rs.length → (Lit.int .i64 rs[i]!.1).wf = true) {R : Nat} (hR : R < 340282366920938463463374607431768211456) :
    Calls Tryz.prog 4 #[v, u, .agg #[.int .u64 (hi R), .int .u64 (lo R)]] w fun e w' => e = .returned (.bool true) ∧ Gb w w' := by
  by_cases h : 2000 < rs.length
  · exact range_big hv hu hlen h R
  · exact range_law hR hv hu ⟨by omega, hwf⟩

set_option maxRecDepth 100000 in
/-- A Wide that came in, and the number that its words say. -/
theorem open_wide {H : Type} {enc : TypeId × Value → H} {W : World} {base : Nat} {spare : Nat → Bool} {r : Reach} {b0 : Nat} {v : Value} {d : DataW H} {p : List MemPlace}
    (hv : Value.okWide Tryz.prog W r b0 39 v) (h : DataW.Trod enc Tryz.prog W base spare true 39 v d p) :
    ∃ R : Nat, R < 340282366920938463463374607431768211456 ∧ v = .agg #[.int .u64 (hi R), .int .u64 (lo R)] := by
  obtain ⟨c0, c1, y0, y1, m, rfl, rfl, rfl, hy0, hy1⟩ := open_agg2 Tryz.underlying39 (by kernel_rfl) Tryz.cells39 hv h
  obtain ⟨a, e0, rfl, wa⟩ := DataW.trod_int Tryz.underlying37 hy0
  obtain ⟨b, e1, rfl, wb⟩ := DataW.trod_int Tryz.underlying37 hy1
  simp at e0 e1
  subst e0 e1
  obtain ⟨h0, h1⟩ := word_of_wf wa
  obtain ⟨l0, l1⟩ := word_of_wf wb
  obtain ⟨e1, e2⟩ := hi_lo a b h0 l0 l1
  exact ⟨(a * 18446744073709551616 + b).toNat, wd_lt a b h1 l1, by rw [e1, e2]⟩

set_option maxRecDepth 100000 in
theorem flatRange_lifted (os : Os) (started : os.Started) (H : Type) (enc : TypeId × Value → H) :
    ReturnsInHanded {} Tryz.checked os 4 .any (Rows.flatRangeSpec.pre6 enc Tryz.prog Tryz.f4 Rows.flatRangeRow.domain false) (Rows.flatRangeSpec.post enc Tryz.prog Tryz.f4 false true false false) := by
  refine returnsInHanded_of_change (C := Tryz.checked) Tryz.own started (by kernel_rfl) Tryz.func4
    (ChangeSpec.witness6 (enc := enc) (C := Tryz.checked) false ⟨#[], #[.slice none 0 0, .slice none 0 0, .agg #[.int .u64 0, .int .u64 0]], []⟩ 4 (by kernel_rfl) (by kernel_rfl) (by kernel_rfl) (by kernel_rfl)) ?_
  intro W base args ds gs before hval0 hW _ _
  have hval : ∀ (j : Nat) t v, Tryz.f4.params[j]? = some t → args[j]? = some v → Value.okWide Tryz.prog W .any base t v := hval0
  have hW' := hW
  obtain ⟨p, q, hA0, hV, rfl, _, _⟩ := hW
  have hA : DataW.TrodAll enc Tryz.prog W 0 (fun _ => true) true Tryz.f4.params.toList args.toList ds p := hA0
  rw [Tryz.params4] at hA hval
  obtain ⟨v0, v1, v2, d0, d1, d2, p0, p1, p2, rfl, rfl, rfl, h0, h1, h2⟩ := trodAll_three hA
  obtain ⟨rfl, rfl⟩ := trodVars_none hV
  obtain ⟨rs, hr, hl, hwf, _⟩ := open_rows (hval 0 22 v0 rfl rfl) h0
  obtain ⟨c, hc, _⟩ := open_ints (hval 1 23 v1 rfl rfl) h1
  obtain ⟨R, hR, rfl⟩ := open_wide (hval 2 39 v2 rfl rfl) h2
  refine (range_any hr hc (Nat.le_trans hl (by decide)) hwf hR).mono fun e W' ⟨he, hg⟩ => ?_
  subst he
  exact ⟨_, rfl, law_post hW' rfl (by kernel_rfl) rfl (by rw [Tryz.params4]; intro t ht; simp at ht; rcases ht with rfl | rfl | rfl <;> exact ⟨by kernel_rfl, of_decide_eq_true (by kernel_rfl)⟩) hg⟩

theorem flatRange_holds : Rows.FlatRangeSaid :=
  OpenClaim.holds_of_wide 4 Tryz.f4 rfl rfl rfl rfl rfl rfl rfl ⟨rfl, rfl, rfl, rfl, rfl⟩ rfl rfl rfl rfl rfl (by kernel_rfl) Tryz.func4 (by kernel_rfl)
    (of_decide_eq_true (by kernel_rfl)) (by unfold Func.isWrapper; first | (rw [if_pos (by decide +kernel)]; kernel_rfl) | (rw [if_neg (by decide +kernel)]; exact ⟨rfl, rfl⟩))
    (fun os started H enc _ => flatRange_lifted os started H enc)
#print axioms flatRange_holds

end Go.Proofs.YteaeaoekaoedoaaGreat
