/- A script of calls, a way of building, that came in. -/
import Derived.Test.YtbnljabeccebiaaGreatKnLiftS
import Derived.Test.YtbnljabeccebiaaGreatKn43
namespace Go.Proofs.YtbnljabeccebiaaGreat
open Go.ChangeShapes Go.WideShapes Go.ChangeAt Go.RowKit Go.Joins Go.Deep

theorem Tryz.cellsHow : Tryz.prog.cellsOf 25 = 3 := by kernel_rfl
set_option maxRecDepth 100000 in
/-- A way of building that came in. -/
theorem open_how {H : Type} {enc : TypeId × Value → H} {W : World} {b0 : Nat} {r : Reach} {v : Value} {d : DataW H} {p : List MemPlace}
    (hv' : Value.okWide Tryz.prog W r b0 25 v) (h : DataW.Trod enc Tryz.prog W 0 (fun _ => true) true 25 v d p) :
    ∃ A B S : Int, v = .agg #[.int .i64 A, .int .i64 B, .int .u64 S] := by
  obtain ⟨cs, rfl, hsz⟩ := okWide_struct Tryz.underlying25 hv'
  obtain ⟨fuel, hf⟩ := h
  obtain ⟨l⟩ := cs
  simp only [Value.cells] at hf
  obtain ⟨xs, n, _, _, hl, hlen, hf⟩ := DataW.trod_struct Tryz.underlying25 hf
  rw [Tryz.cellsHow] at hl
  match xs, hlen, l, hl with
  | [y0, y1, y2], _, [c0, c1, c2], _ =>
    obtain ⟨a0, e0, _⟩ := DataW.trod_int Tryz.underlying3 (by simpa using hf 0 _ rfl)
    obtain ⟨a1, e1, _⟩ := DataW.trod_int Tryz.underlying3 (by simpa using hf 1 _ rfl)
    obtain ⟨a2, e2, _⟩ := DataW.trod_int Tryz.underlying23 (by simpa using hf 2 _ rfl)
    simp [Tryz.cells3, Tryz.cells23] at e0 e1 e2
    subst e0 e1 e2
    exact ⟨a0, a1, a2, rfl⟩
theorem trod_struct6 {H : Type} {enc : TypeId × Value → H} {w : World} {base : Nat} {spare : Nat → Bool} {held : Bool} {t : TypeId} {f0 f1 f2 f3 f4 f5 : Field} {fuel : Nat} {cs : List Value} {x : DataW H × List MemPlace} (ht : Tryz.prog.underlying t = some (.struct #[f0, f1, f2, f3, f4, f5])) (h : DataW.trod enc Tryz.prog w base spare held fuel t cs = some x) :
    ∃ y0 y1 y2 y3 y4 y5 n, cs.length = Tryz.prog.cellsOf t ∧ DataW.trod enc Tryz.prog w base spare held n f0.type ((cs.drop f0.offset).take (Tryz.prog.cellsOf f0.type)) = some y0 ∧
      DataW.trod enc Tryz.prog w base spare held n f1.type ((cs.drop f1.offset).take (Tryz.prog.cellsOf f1.type)) = some y1 ∧ DataW.trod enc Tryz.prog w base spare held n f2.type ((cs.drop f2.offset).take (Tryz.prog.cellsOf f2.type)) = some y2 ∧
      DataW.trod enc Tryz.prog w base spare held n f3.type ((cs.drop f3.offset).take (Tryz.prog.cellsOf f3.type)) = some y3 ∧ DataW.trod enc Tryz.prog w base spare held n f4.type ((cs.drop f4.offset).take (Tryz.prog.cellsOf f4.type)) = some y4 ∧
      DataW.trod enc Tryz.prog w base spare held n f5.type ((cs.drop f5.offset).take (Tryz.prog.cellsOf f5.type)) = some y5 := by
  obtain ⟨xs, n, _, rfl, hl, hlen, hf⟩ := DataW.trod_struct ht h
  match xs, hlen with
  | [y0, y1, y2, y3, y4, y5], _ => exact ⟨y0, y1, y2, y3, y4, y5, n, hl, by simpa using hf 0 f0 rfl, by simpa using hf 1 f1 rfl, by simpa using hf 2 f2 rfl, by simpa using hf 3 f3 rfl, by simpa using hf 4 f4 rfl, by simpa using hf 5 f5 rfl⟩
theorem Tryz.cellsOp : Tryz.prog.cellsOf 45 = 7 := by kernel_rfl
set_option maxRecDepth 100000 in
/-- A script that came in. -/
theorem open_ops {H : Type} {enc : TypeId × Value → H} {W : World} {b0 : Nat} {r : Reach} {v : Value} {d : DataW H} {p : List MemPlace}
    (hv' : Value.okWide Tryz.prog W r b0 39 v) (h : DataW.Trod enc Tryz.prog W 0 (fun _ => true) true 39 v d p) :
    ∃ ops : List Opv, RdO W v ops ∧ ops.length ≤ maxLen := by
  obtain ⟨a0, len, cap, rfl⟩ := okWide_slice Tryz.underlying39 hv'
  obtain ⟨fuel, hf⟩ := h
  rcases open_slice Tryz.underlying39 (by simpa [Value.cells] using hf) with ⟨e, _⟩ | ⟨a, len, cap, m, n, D, Pl, e, _, hlc, hcm, hm, _, hx⟩
  · cases e
    exact ⟨[], rdo_nil W, Nat.zero_le _⟩
  · cases e
    rw [if_pos rfl] at hm
    subst hm
    have hy : ∀ i, i < len → ∃ y : Opv, ∃ rv qv, (W.cell? (a.add (i * 7)) = some (.int .i64 y.1.1) ∧ W.cell? ((a.add (i * 7)).add 1) = some (.int .i64 y.1.2.1) ∧ W.cell? ((a.add (i * 7)).add 2) = some (.int .i64 y.1.2.2.1) ∧ W.cell? ((a.add (i * 7)).add 3) = some (.int .i64 y.1.2.2.2) ∧ W.cell? ((a.add (i * 7)).add 4) = some (.int .i64 y.2.1.1) ∧ W.cell? ((a.add (i * 7)).add 5) = some rv ∧ W.cell? ((a.add (i * 7)).add 6) = some qv) ∧ RdI W rv y.2.1.2 ∧ RdI W qv y.2.2 := by
      intro i hi
      obtain ⟨cs, hc, ht⟩ := hx i (by omega)
      obtain ⟨y0, y1, y2, y3, y4, y5, k, hl, k0, k1, k2, k3, k4, k5⟩ := trod_struct6 Tryz.underlying45 ht
      rw [Tryz.cellsOp] at hl hc
      match cs, hl with
      | [c0, c1, c2, c3, c4, c5, c6], _ =>
        obtain ⟨z0, z1, m, _, hl1, j0, j1⟩ := trod_struct2 Tryz.underlying43 k4
        obtain ⟨a0, e0, _⟩ := DataW.trod_int Tryz.underlying3 k0
        obtain ⟨a1, e1, _⟩ := DataW.trod_int Tryz.underlying3 k1
        obtain ⟨a2, e2, _⟩ := DataW.trod_int Tryz.underlying3 k2
        obtain ⟨a3, e3, _⟩ := DataW.trod_int Tryz.underlying3 k3
        obtain ⟨a4, e4, _⟩ := DataW.trod_int Tryz.underlying3 j0
        obtain ⟨rv, rl, e5, hr, _⟩ := trod22 j1
        obtain ⟨qv, ql, e6, hq, _⟩ := trod22 k5
        simp [Tryz.cells3, Tryz.cells41, Tryz.cells43] at e0 e1 e2 e3 e4 e5 e6
        subst e0 e1 e2 e3 e4 e5 e6
        obtain ⟨_, _, hcc⟩ := World.cells?_some hc
        have q0 := hcc 0 (by omega)
        have q1 := hcc 1 (by omega)
        have q2 := hcc 2 (by omega)
        have q3 := hcc 3 (by omega)
        have q4 := hcc 4 (by omega)
        have q5 := hcc 5 (by omega)
        have q6 := hcc 6 (by omega)
        exact ⟨((a0, a1, a2, a3), (a4, rl), ql), _, _, ⟨by simpa [Addr.add] using q0, by simpa using q1, by simpa using q2, by simpa using q3, by simpa using q4, by simpa using q5, by simpa using q6⟩, hr, hq⟩
    obtain ⟨Y, hY⟩ := choose_lt (α := Opv) (p := fun i y => ∃ rv qv, (W.cell? (a.add (i * 7)) = some (.int .i64 y.1.1) ∧ W.cell? ((a.add (i * 7)).add 1) = some (.int .i64 y.1.2.1) ∧ W.cell? ((a.add (i * 7)).add 2) = some (.int .i64 y.1.2.2.1) ∧ W.cell? ((a.add (i * 7)).add 3) = some (.int .i64 y.1.2.2.2) ∧ W.cell? ((a.add (i * 7)).add 4) = some (.int .i64 y.2.1.1) ∧ W.cell? ((a.add (i * 7)).add 5) = some rv ∧ W.cell? ((a.add (i * 7)).add 6) = some qv) ∧ RdI W rv y.2.1.2 ∧ RdI W qv y.2.2) hy
    have hg : ∀ i, i < len → ((List.range len).map Y)[i]! = Y i := by
      intro i hi
      rw [getElem!_pos _ i (by simpa using hi)]; simp
    refine ⟨(List.range len).map Y, ⟨some a, m, by simp, fun i hi => ?_⟩, by simp; omega⟩
    have hi' : i < len := by simpa using hi
    obtain ⟨_, _, ⟨q0, _⟩, _⟩ := hY 0 (by omega)
    have ha : a = ⟨a.block, a.off, none⟩ := spot_none (by simpa [Addr.add] using q0)
    obtain ⟨rv, qv, ⟨c0, c1, c2, c3, c4, c5, c6⟩, h1, h2⟩ := hY i hi'
    rw [hg i hi']
    rw [ha, Addr.add_lit] at c0
    rw [ha, Addr.add_lit, Addr.add_lit] at c1 c2 c3 c4 c5 c6
    exact ⟨a.block, a.off, rv, qv, by rw [← ha], ⟨c0, c1, c2, c3, c4, c5, c6⟩, h1, h2⟩
end Go.Proofs.YtbnljabeccebiaaGreat
