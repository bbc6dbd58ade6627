/- What the rows' proofs share: specs, rows of specs and questions that came in. -/
import Derived.Test.YtgmjokmiifmckaaLiftR
import Derived.Test.YtgmjokmiifmckaaRoA
import Derived.LaidMore
import Derived.OpenShut
namespace Go.Proofs.Ytgmjokmiifmckaa
open Go.ChangeShapes Go.WideShapes Go.ChangeAt Go.RowKit Go.Joins Go.Deep

theorem Try.cellsSp : Try.prog.cellsOf 24 = 4 := by kernel_rfl
theorem Try.cellsKi : Try.prog.cellsOf 22 = 1 := by kernel_rfl
theorem Try.cellsQu : Try.prog.cellsOf 36 = 4 := by kernel_rfl
/-- A spec that came in. -/
theorem open_spec {H : Type} {enc : TypeId × Value → H} {W : World} {base : Nat} {spare : Nat → Bool} {r : Reach} {b0 : Nat} {v : Value} {d : DataW H} {p : List MemPlace}
    (hv : Value.okWide Try.prog W r b0 24 v) (h : DataW.Trod enc Try.prog W base spare true 24 v d p) : ∃ k n p c : Int, v = Sp k n p c := by
  obtain ⟨c0, c1, c2, c3, y0, y1, y2, y3, m, rfl, rfl, rfl, hy0, hy1, hy2, hy3⟩ := open_agg4 Try.underlying24 (by kernel_rfl) Try.cellsSp hv h
  obtain ⟨a, e0, _⟩ := DataW.trod_int Try.underlying22 hy0
  obtain ⟨b, e1, _⟩ := DataW.trod_int Try.underlying3 hy1
  obtain ⟨c, e2, _⟩ := DataW.trod_int Try.underlying3 hy2
  obtain ⟨d, e3, _⟩ := DataW.trod_int Try.underlying3 hy3
  simp at e0 e1 e2 e3
  subst e0 e1 e2 e3
  exact ⟨a, b, c, d, rfl⟩
theorem trod_struct4 {H : Type} {enc : TypeId × Value → H} {w : World} {base : Nat} {spare : Nat → Bool} {held : Bool} {t : TypeId} {f0 f1 f2 f3 : Field} {fuel : Nat} {cs : List Value} {x : DataW H × List MemPlace} (ht : Try.prog.underlying t = some (.struct #[f0, f1, f2, f3])) (h : DataW.trod enc Try.prog w base spare held fuel t cs = some x) :
    ∃ y0 y1 y2 y3 n, cs.length = Try.prog.cellsOf t ∧ DataW.trod enc Try.prog w base spare held n f0.type ((cs.drop f0.offset).take (Try.prog.cellsOf f0.type)) = some y0 ∧
      DataW.trod enc Try.prog w base spare held n f1.type ((cs.drop f1.offset).take (Try.prog.cellsOf f1.type)) = some y1 ∧ DataW.trod enc Try.prog w base spare held n f2.type ((cs.drop f2.offset).take (Try.prog.cellsOf f2.type)) = some y2 ∧
      DataW.trod enc Try.prog w base spare held n f3.type ((cs.drop f3.offset).take (Try.prog.cellsOf f3.type)) = some y3 := by
  obtain ⟨xs, n, _, rfl, hl, hlen, hf⟩ := DataW.trod_struct ht h
  match xs, hlen with
  | [y0, y1, y2, y3], _ => exact ⟨y0, y1, y2, y3, n, hl, by simpa using hf 0 f0 rfl, by simpa using hf 1 f1 rfl, by simpa using hf 2 f2 rfl, by simpa using hf 3 f3 rfl⟩
set_option maxRecDepth 100000 in
/-- Specs that came in. -/
theorem open_specs {H : Type} {enc : TypeId × Value → H} {W : World} {b0 : Nat} {r : Reach} {v : Value} {d : DataW H} {p : List MemPlace}
    (hv' : Value.okWide Try.prog W r b0 30 v) (h : DataW.Trod enc Try.prog W 0 (fun _ => true) true 30 v d p) :
    ∃ rs : List N4, RdS W v rs ∧ rs.length ≤ maxLen := by
  obtain ⟨a0, len, cap, rfl⟩ := okWide_slice Try.underlying30 hv'
  obtain ⟨fuel, hf⟩ := h
  rcases open_slice Try.underlying30 (by simpa [Value.cells] using hf) with ⟨e, _⟩ | ⟨a, len, cap, m, n, D, Pl, e, _, hlc, hcm, hm, _, hx⟩
  · cases e
    exact ⟨[], ⟨none, 0, rfl, fun i hi => absurd hi (Nat.not_lt_zero _)⟩, Nat.zero_le _⟩
  · cases e
    rw [if_pos rfl] at hm
    subst hm
    have hy : ∀ i, i < len → ∃ y : N4, W.cell? (a.add (i * 4)) = some (.int .i64 y.1) ∧ W.cell? ((a.add (i * 4)).add 1) = some (.int .i64 y.2.1) ∧ W.cell? ((a.add (i * 4)).add 2) = some (.int .i64 y.2.2.1) ∧ W.cell? ((a.add (i * 4)).add 3) = some (.int .i64 y.2.2.2) := by
      intro i hi
      obtain ⟨cs, hc, ht⟩ := hx i (by omega)
      obtain ⟨z0, z1, z2, z3, k, hl1, j0, j1, j2, j3⟩ := trod_struct4 Try.underlying24 ht
      rw [Try.cellsSp] at hl1 hc
      match cs, hl1 with
      | [c0, c1, c2, c3], _ =>
        obtain ⟨x0, e0, _⟩ := DataW.trod_int Try.underlying22 j0
        obtain ⟨x1, e1, _⟩ := DataW.trod_int Try.underlying3 j1
        obtain ⟨x2, e2, _⟩ := DataW.trod_int Try.underlying3 j2
        obtain ⟨x3, e3, _⟩ := DataW.trod_int Try.underlying3 j3
        simp [Try.cells3, Try.cellsKi] at e0 e1 e2 e3
        subst e0 e1 e2 e3
        obtain ⟨_, _, hcc⟩ := World.cells?_some hc
        have q0 := hcc 0 (by omega)
        have q1 := hcc 1 (by omega)
        have q2 := hcc 2 (by omega)
        have q3 := hcc 3 (by omega)
        exact ⟨(x0, x1, x2, x3), by simpa [Addr.add] using q0, by simpa using q1, by simpa using q2, by simpa using q3⟩
    obtain ⟨Y, hY⟩ := choose_lt (α := N4) (p := fun i y => W.cell? (a.add (i * 4)) = some (.int .i64 y.1) ∧ W.cell? ((a.add (i * 4)).add 1) = some (.int .i64 y.2.1) ∧ W.cell? ((a.add (i * 4)).add 2) = some (.int .i64 y.2.2.1) ∧ W.cell? ((a.add (i * 4)).add 3) = some (.int .i64 y.2.2.2)) hy
    have hg : ∀ i, i < len → ((List.range len).map Y)[i]! = Y i := by
      intro i hi
      rw [getElem!_pos _ i (by simpa using hi)]; simp
    refine ⟨(List.range len).map Y, ⟨some a, m, by simp, fun i hi => ?_⟩, by simp; omega⟩
    have hi' : i < len := by simpa using hi
    obtain ⟨q0, _⟩ := hY 0 (by omega)
    have ha : a = ⟨a.block, a.off, none⟩ := spot_none (by simpa [Addr.add] using q0)
    obtain ⟨q0, q1, q2, q3⟩ := hY i hi'
    rw [hg i hi']
    rw [ha, Addr.add_lit] at q0
    rw [ha, Addr.add_lit, Addr.add_lit] at q1 q2 q3
    exact ⟨a.block, a.off, by rw [← ha], q0, q1, q2, q3⟩
/-- A question that came in. -/
theorem open_query {H : Type} {enc : TypeId × Value → H} {W : World} {b0 : Nat} {r : Reach} {v : Value} {d : DataW H} {p : List MemPlace}
    (hv' : Value.okWide Try.prog W r b0 36 v) (h : DataW.Trod enc Try.prog W 0 (fun _ => true) true 36 v d p) :
    ∃ (u : Value) (l : List Int) (K m b : Int), v = Qv u K m b ∧ RdI W u l := by
  obtain ⟨cs, rfl, hsz⟩ := okWide_struct Try.underlying36 hv'
  obtain ⟨fuel, hf⟩ := h
  obtain ⟨l⟩ := cs
  simp only [Value.cells] at hf
  obtain ⟨y0, y1, y2, y3, n, hl, k0, k1, k2, k3⟩ := trod_struct4 Try.underlying36 hf
  rw [Try.cellsQu] at hl
  match l, hl with
  | [c0, c1, c2, c3], _ =>
    obtain ⟨vl, L, e0, rl, _⟩ := trod22 k0
    obtain ⟨x1, e1, _⟩ := DataW.trod_int Try.underlying3 k1
    obtain ⟨x2, e2, _⟩ := DataW.trod_int Try.underlying31 k2
    obtain ⟨x3, e3, _⟩ := DataW.trod_int Try.underlying3 k3
    simp [Try.cells3, Try.cells34, show Try.prog.cellsOf 31 = 1 by kernel_rfl] at e0 e1 e2 e3
    subst e0 e1 e2 e3
    exact ⟨_, L, x1, x2, x3, rfl, rl⟩
end Go.Proofs.Ytgmjokmiifmckaa
