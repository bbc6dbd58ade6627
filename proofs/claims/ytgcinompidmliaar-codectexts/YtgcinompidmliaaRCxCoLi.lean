/- What came in, opened: bytes. -/
import Derived.Test.YtgcinompidmliaaRCxLiftS
import Derived.Test.YtgcinompidmliaaRCxCoB
namespace Go.Proofs.YtgcinompidmliaaR
open Go.ChangeShapes Go.WideShapes Go.ChangeAt Go.RowKit Go.Joins Go.Deep

theorem Try.cellsU8 : Try.prog.cellsOf 5 = 1 := by kernel_rfl
theorem byte_of_wf {a : Int} (h : (Lit.int .u8 a).wf = true) : 0 ≤ a ∧ a < 256 := by
  simp [Lit.wf, IntKind.min, IntKind.max, IntKind.signed, IntKind.bits] at h
  exact ⟨by omega, by omega⟩
set_option maxRecDepth 100000 in
theorem open_bytes {H : Type} {enc : TypeId × Value → H} {W : World} {b0 : Nat} {r : Reach} {v : Value} {d : DataW H} {p : List MemPlace}
    (hv' : Value.okWide Try.prog W r b0 22 v) (h : DataW.Trod enc Try.prog W 0 (fun _ => true) true 22 v d p) : ∃ l, RdB W v l ∧ ∀ n c, v = .slice none n c → n = 0 ∧ c = 0 := by
  obtain ⟨a0, len, cap, rfl⟩ := okWide_slice Try.underlying22 hv'
  obtain ⟨fuel, hf⟩ := h
  rcases open_slice1 Try.underlying22 Try.cellsU8 (by simpa [Value.cells] using hf) with ⟨e, _⟩ | ⟨a, len, cap, m, n, V, D, Pl, e, _, hlc, hcm, hm, _, hx⟩
  · cases e
    exact ⟨[], rdb_nil _, fun n c e => by cases e; exact ⟨rfl, rfl⟩⟩
  · cases e
    rw [if_pos rfl] at hm
    subst hm
    have hy : ∀ i, i < len → ∃ y : UInt8, W.cell? (a.add i) = some (.int .u8 (y.toNat : Int)) := by
      intro i hi
      obtain ⟨hc, ht⟩ := hx i (by omega)
      obtain ⟨y, e, _, wf⟩ := DataW.trod_int Try.underlying5 ht
      simp at e
      obtain ⟨b0, b1⟩ := byte_of_wf wf
      refine ⟨UInt8.ofNat y.toNat, ?_⟩
      rw [hc, e]
      congr 2
      simp
      omega
    obtain ⟨Y, hY⟩ := choose_lt (α := UInt8) (p := fun i y => W.cell? (a.add i) = some (.int .u8 (y.toNat : Int))) hy
    refine ⟨(List.range len).map Y, ⟨some a, m, by simp, by simp; omega, fun i hi => ?_⟩, fun n c e => by cases e⟩
    have hi' : i < len := by simpa using hi
    have ha : a = ⟨a.block, a.off, none⟩ := spot_none (by simpa [Addr.add] using hY 0 (by omega))
    refine ⟨a.block, a.off, by rw [← ha], ?_⟩
    have e : ((List.range len).map Y)[i]! = Y i := by rw [getElem!_pos _ i hi]; simp
    rw [e]
    have := hY i hi'
    rwa [ha, Addr.add_lit] at this
end Go.Proofs.YtgcinompidmliaaR
