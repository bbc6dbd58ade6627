/- What the rows' proofs share: a Wide that came in, opened and shut. -/
import Derived.Test.YtlckjohmllagoaaBase
import Derived.ProofKit
import Derived.Lib.SmallJoins
namespace Go.Proofs.Ytlckjohmllagoaa
open Go.ChangeShapes Go.WideShapes Go.ChangeAt Go.RowKit Go.Joins

theorem Try.own : ownKnob Try.prog.godebug = none := by kernel_rfl
theorem Try.cells24 : Try.prog.cellsOf 24 = 2 := by kernel_rfl
theorem word_of_wf {x : Int} (h : (Lit.int .u64 x).wf = true) : 0 ≤ x ∧ x < 18446744073709551616 := by
  simp [Lit.wf, IntKind.min, IntKind.max, IntKind.signed, IntKind.bits] at h
  exact ⟨by omega, by omega⟩
theorem Gr.grown {w w' : World} (h : Gr w w') : Grown w w' := ⟨h.below.frame _, h.froz, h.size⟩

/-- A Wide that came in. -/
theorem open_wide {H : Type} {enc : TypeId × Value → H} {W : World} {base : Nat} {spare : Nat → Bool} {r : Reach} {b0 : Nat} {v : Value} {d : DataW H} {p : List MemPlace}
    (hv : Value.okWide Try.prog W r b0 24 v) (h : DataW.Trod enc Try.prog W base spare true 24 v d p) :
    ∃ h l : Int, v = .agg #[.int .u64 h, .int .u64 l] ∧ d = .agg [.lit (.int .u64 h), .lit (.int .u64 l)] ∧ p = [] ∧ (Lit.int .u64 h).wf = true ∧ (Lit.int .u64 l).wf = true := by
  obtain ⟨c0, c1, y0, y1, m, rfl, rfl, rfl, hy0, hy1⟩ := open_agg2 Try.underlying24 (by kernel_rfl) Try.cells24 hv h
  obtain ⟨a, e0, rfl, wa⟩ := DataW.trod_int Try.underlying22 hy0
  obtain ⟨b, e1, rfl, wb⟩ := DataW.trod_int Try.underlying22 hy1
  simp at e0 e1
  subst e0 e1
  exact ⟨a, b, rfl, rfl, rfl, wa, wb⟩
theorem shut_wide {H : Type} {enc : TypeId × Value → H} {W : World} {base : Nat} {spare : Nat → Bool} {h l : Int} (wh : (Lit.int .u64 h).wf = true) (wl : (Lit.int .u64 l).wf = true) :
    DataW.Trod enc Try.prog W base spare true 24 (.agg #[.int .u64 h, .int .u64 l]) (.agg [.lit (.int .u64 h), .lit (.int .u64 l)]) [] :=
  shut_agg2 (y0 := (.lit (.int .u64 h), [])) (y1 := (.lit (.int .u64 l), [])) Try.underlying24 (by kernel_rfl) Try.cells24 ⟨1, by simp [DataW.trod, Try.underlying22, wh]⟩ ⟨1, by simp [DataW.trod, Try.underlying22, wl]⟩
/-- The number that two words say. -/
theorem as_wd {h l : Int} (wh : (Lit.int .u64 h).wf = true) (wl : (Lit.int .u64 l).wf = true) : ∃ n : Nat, n < 340282366920938463463374607431768211456 ∧ (.agg #[.int .u64 h, .int .u64 l] : Value) = Wd n := by
  obtain ⟨h0, h1⟩ := word_of_wf wh
  obtain ⟨l0, l1⟩ := word_of_wf wl
  obtain ⟨e1, e2⟩ := hi_lo h l h0 l0 l1
  exact ⟨(h * 18446744073709551616 + l).toNat, wd_lt h l h1 l1, by rw [Wd, e1, e2]⟩

end Go.Proofs.Ytlckjohmllagoaa
