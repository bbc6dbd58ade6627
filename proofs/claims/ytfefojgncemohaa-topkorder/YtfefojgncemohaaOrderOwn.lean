/- Proved: the law TopkOrder answers true for every size, list of hits and place to cut, and leaves them as they were; there is no condition on the input. -/
import Derived.Test.YtfefojgncemohaaLift
import Derived.Test.YtfefojgncemohaaOrderB
import Derived.Test.YtfefojgncemohaaOrderC
namespace Go.Proofs.Ytfefojgncemohaa
open Go.ChangeShapes Go.WideShapes Go.ChangeAt Go.RowKit Go.Joins

theorem cap_ok {W : World} {r : Reach} {b0 : Nat} {a : Option Addr} {n cap : Nat} (h : Value.okWide Try.prog W r b0 30 (.slice a n cap)) : n ≤ cap := by
  simp only [Value.okWide, Try.underlying30, Cell.okWide] at h
  cases a with
  | none =>
    cases n with
    | zero => exact Nat.zero_le _
    | succ n => simp [Cell.ok, Try.underlying30] at h
  | some a =>
    simp [Cell.ok, Try.underlying30] at h
    exact h.1
theorem int_of_wf {x : Int} (h : (Lit.int .i64 x).wf = true) : -9223372036854775808 ≤ x ∧ x < 9223372036854775808 := by
  simp [Lit.wf, IntKind.min, IntKind.max, IntKind.signed, IntKind.bits] at h
  exact ⟨by omega, by omega⟩
theorem topkOrder_any (k cut : Int) (hc : -9223372036854775808 ≤ cut ∧ cut < 9223372036854775808) {w : World} {v : Value} {L : List Ht} (hr : Rd w v L) (hcap : ∀ a cap, v = .slice a L.length cap → L.length ≤ cap) :
    Calls Try.prog 6 #[.int .i64 k, v, .int .i64 cut] w fun e w' => e = .returned (.bool true) ∧ Gr w w' := by
  by_cases hb : 3000 < L.length ∨ k < 1 ∨ 64 < k
  · obtain ⟨a, cap, rfl⟩ := hr.form'
    exact order_out k a L.length cap cut hb w
  · obtain ⟨n, rfl⟩ := Int.eq_ofNat_of_zero_le (show 0 ≤ k by omega)
    by_cases h0 : 0 ≤ cut
    · exact order_pos n (by omega) (by omega) hr (by omega) cut h0 hc.2 hcap
    · exact order_neg n (by omega) (by omega) hr (by omega) cut (by omega) hc.1 hcap

set_option maxRecDepth 100000 in
theorem topkOrder_lifted (os : Os) (started : os.Started) (H : Type) (enc : TypeId × Value → H) :
    ReturnsInHanded {} Try.checked os 6 .any (Rows.topkOrderSpec.pre6 enc Try.prog Try.f6 Rows.topkOrderRow.domain false) (Rows.topkOrderSpec.post enc Try.prog Try.f6 false true false false) := by
  refine returnsInHanded_of_change (C := Try.checked) Try.own started (by kernel_rfl) Try.func6
    (ChangeSpec.witness6 (enc := enc) (C := Try.checked) false ⟨#[], #[.int .i64 0, .slice none 0 0, .int .i64 0], []⟩ 8 (by kernel_rfl) (by kernel_rfl) (by kernel_rfl) (by kernel_rfl)) ?_
  intro W base args ds gs before hval0 hW _ _
  have hval : ∀ (j : Nat) t v, Try.f6.params[j]? = some t → args[j]? = some v → Value.okWide Try.prog W .any base t v := hval0
  have hW' := hW
  obtain ⟨p, q, hA0, hV, rfl, _, _⟩ := hW
  have hA : DataW.TrodAll enc Try.prog W 0 (fun _ => true) true Try.f6.params.toList args.toList ds p := hA0
  rw [Try.params6] at hA hval
  obtain ⟨v0, v1, v2, d0, d1, d2, p0, p1, p2, rfl, rfl, rfl, h0, h1, h2⟩ := trodAll_three hA
  obtain ⟨rfl, rfl⟩ := trodVars_none hV
  obtain ⟨k, rfl, rfl, rfl, _⟩ := open_int Try.underlying3 (hval 0 3 v0 rfl rfl) h0
  obtain ⟨cut, rfl, rfl, rfl, wc⟩ := open_int Try.underlying3 (hval 2 3 v2 rfl rfl) h2
  obtain ⟨L, hr⟩ := open_hits (hval 1 30 v1 rfl rfl) h1
  have ho := hval 1 30 v1 rfl rfl
  refine (topkOrder_any k cut (int_of_wf wc) hr (fun a cap e => by rw [e] at ho; exact cap_ok ho)).mono fun e W' ⟨he, hg⟩ => ?_
  subst he
  exact ⟨_, rfl, law_post hW' rfl (by kernel_rfl) rfl (by rw [Try.params6]; intro t ht; simp at ht; rcases ht with rfl | rfl | rfl <;> exact ⟨by kernel_rfl, of_decide_eq_true (by kernel_rfl)⟩) hg⟩

theorem topkOrder_holds : Rows.TopkOrderSaid :=
  OpenClaim.holds_of_wide 6 Try.f6 rfl rfl rfl rfl rfl rfl rfl ⟨rfl, rfl, rfl, rfl, rfl⟩ rfl rfl rfl rfl rfl (by kernel_rfl) Try.func6 (by kernel_rfl)
    (of_decide_eq_true (by kernel_rfl)) (by unfold Func.isWrapper; first | (rw [if_pos (by decide +kernel)]; kernel_rfl) | (rw [if_neg (by decide +kernel)]; exact ⟨rfl, rfl⟩))
    (fun os started H enc _ => topkOrder_lifted os started H enc)
#print axioms topkOrder_holds

end Go.Proofs.Ytfefojgncemohaa
