/- A script of calls, lists of bytes, that came in. -/
import Derived.Test.YtpjoaefmpdjjnaaSxDkLf
namespace Go.Proofs.Ytpjoaefmpdjjnaa
open Go.ChangeShapes Go.WideShapes Go.ChangeAt Go.RowKit Go.Joins Go.Deep

/-- A call: its kind, its two names, its bytes, its number, its choices. -/
abbrev OpP := Int × By × By × By × Int × List Int
def RdS (w : World) (v : Value) (ops : List OpP) : Prop := ∃ a cap, v = .slice a ops.length cap ∧ ∀ i, i < ops.length → ∃ g o vb vc, a = some ⟨g, o, none⟩ ∧
  (w.cell? ⟨g, o + i * 6, none⟩ = some (.int .i64 ops[i]!.1) ∧ w.cell? ⟨g, o + i * 6 + 1, none⟩ = some (.string (sb ops[i]!.2.1)) ∧ w.cell? ⟨g, o + i * 6 + 2, none⟩ = some (.string (sb ops[i]!.2.2.1)) ∧ w.cell? ⟨g, o + i * 6 + 3, none⟩ = some vb ∧ w.cell? ⟨g, o + i * 6 + 4, none⟩ = some (.int .i64 ops[i]!.2.2.2.2.1) ∧ w.cell? ⟨g, o + i * 6 + 5, none⟩ = some vc) ∧
  RdY w vb ops[i]!.2.2.2.1 ∧ RdI w vc ops[i]!.2.2.2.2.2
def OpR (x : OpP) : Prop := x.2.1.length ≤ maxLen ∧ x.2.2.1.length ≤ maxLen ∧ InR x.2.2.2.2.1 ∧ ∀ c ∈ x.2.2.2.2.2, InR c
theorem RdY.gb {w w' : World} {v : Value} {l : By} (h : RdY w v l) (g : Gb w w') : RdY w' v l := ⟨h.1.gb g, h.2⟩
theorem RdS.gb {w w' : World} {v : Value} {ops : List OpP} (h : RdS w v ops) (g : Gb w w') : RdS w' v ops := by
  obtain ⟨a, cap, e, h⟩ := h
  refine ⟨a, cap, e, fun i hi => ?_⟩
  obtain ⟨b, o, vb, vc, e, ⟨c0, c1, c2, c3, c4, c5⟩, h1, h2⟩ := h i hi
  exact ⟨b, o, vb, vc, e, ⟨gb_keeps g c0, gb_keeps g c1, gb_keeps g c2, gb_keeps g c3, gb_keeps g c4, gb_keeps g c5⟩, h1.gb g, h2.gb g⟩
theorem Try.cellsOp : Try.prog.cellsOf 36 = 6 := by kernel_rfl
theorem trod_struct6 {H : Type} {enc : TypeId × Value → H} {w : World} {base : Nat} {spare : Nat → Bool} {held : Bool} {t : TypeId} {f0 f1 f2 f3 f4 f5 : Field} {fuel : Nat} {cs : List Value} {x : DataW H × List MemPlace} (ht : Try.prog.underlying t = some (.struct #[f0, f1, f2, f3, f4, f5])) (h : DataW.trod enc Try.prog w base spare held fuel t cs = some x) :
    ∃ y0 y1 y2 y3 y4 y5 n, cs.length = Try.prog.cellsOf t ∧ DataW.trod enc Try.prog w base spare held n f0.type ((cs.drop f0.offset).take (Try.prog.cellsOf f0.type)) = some y0 ∧
      DataW.trod enc Try.prog w base spare held n f1.type ((cs.drop f1.offset).take (Try.prog.cellsOf f1.type)) = some y1 ∧ DataW.trod enc Try.prog w base spare held n f2.type ((cs.drop f2.offset).take (Try.prog.cellsOf f2.type)) = some y2 ∧
      DataW.trod enc Try.prog w base spare held n f3.type ((cs.drop f3.offset).take (Try.prog.cellsOf f3.type)) = some y3 ∧ DataW.trod enc Try.prog w base spare held n f4.type ((cs.drop f4.offset).take (Try.prog.cellsOf f4.type)) = some y4 ∧
      DataW.trod enc Try.prog w base spare held n f5.type ((cs.drop f5.offset).take (Try.prog.cellsOf f5.type)) = some y5 := by
  obtain ⟨xs, n, _, rfl, hl, hlen, hf⟩ := DataW.trod_struct ht h
  match xs, hlen with
  | [y0, y1, y2, y3, y4, y5], _ => exact ⟨y0, y1, y2, y3, y4, y5, n, hl, by simpa using hf 0 f0 rfl, by simpa using hf 1 f1 rfl, by simpa using hf 2 f2 rfl, by simpa using hf 3 f3 rfl, by simpa using hf 4 f4 rfl, by simpa using hf 5 f5 rfl⟩
set_option maxRecDepth 100000 in
theorem open_ops {H : Type} {enc : TypeId × Value → H} {W : World} {b0 : Nat} {r : Reach} {v : Value} {d : DataW H} {p : List MemPlace}
    (hv' : Value.okWide Try.prog W r b0 31 v) (h : DataW.Trod enc Try.prog W 0 (fun _ => true) true 31 v d p) : ∃ ops : List OpP, RdS W v ops ∧ ∀ i, i < ops.length → OpR ops[i]! := by
  obtain ⟨a0, len, cap, rfl⟩ := okWide_slice Try.underlying31 hv'
  obtain ⟨fuel, hf⟩ := h
  rcases open_slice Try.underlying31 (by simpa [Value.cells] using hf) with ⟨e, _⟩ | ⟨a, len, cap, m, n, D, Pl, e, _, hlc, hcm, hm, _, hx⟩
  · cases e
    exact ⟨[], ⟨none, 0, rfl, fun i hi => absurd hi (Nat.not_lt_zero _)⟩, fun i hi => absurd hi (Nat.not_lt_zero _)⟩
  · cases e
    rw [if_pos rfl] at hm
    subst hm
    have hy : ∀ i, i < len → ∃ y : OpP, ∃ vb vc, (W.cell? (a.add (i * 6)) = some (.int .i64 y.1) ∧ W.cell? ((a.add (i * 6)).add 1) = some (.string (sb y.2.1)) ∧ W.cell? ((a.add (i * 6)).add 2) = some (.string (sb y.2.2.1)) ∧ W.cell? ((a.add (i * 6)).add 3) = some vb ∧ W.cell? ((a.add (i * 6)).add 4) = some (.int .i64 y.2.2.2.2.1) ∧ W.cell? ((a.add (i * 6)).add 5) = some vc) ∧ RdY W vb y.2.2.2.1 ∧ RdI W vc y.2.2.2.2.2 ∧ OpR y := by
      intro i hi
      obtain ⟨cs, hc, ht⟩ := hx i (by omega)
      obtain ⟨y0, y1, y2, y3, y4, y5, k, hl, k0, k1, k2, k3, k4, k5⟩ := trod_struct6 Try.underlying36 ht
      rw [Try.cellsOp] at hl hc
      match cs, hl with
      | [c0, c1, c2, c3, c4, c5], _ =>
        obtain ⟨a0, e0, _⟩ := DataW.trod_int Try.underlying3 k0
        obtain ⟨s1, e1, _, l1⟩ := DataW.trod_string Try.underlying9 k1
        obtain ⟨s2, e2, _, l2⟩ := DataW.trod_string Try.underlying9 k2
        obtain ⟨vb, bl, e3, hb⟩ := trodB k3
        obtain ⟨a4, e4, _, w4⟩ := DataW.trod_int Try.underlying3 k4
        obtain ⟨vc, cl, e5, hcI, hcR⟩ := trodI k5
        simp [Try.cells3, Try.cells34, Try.cellsStr, Try.cellsBs] at e0 e1 e2 e3 e4 e5
        subst e0 e1 e2 e3 e4 e5
        obtain ⟨_, _, hcc⟩ := World.cells?_some hc
        have q0 := hcc 0 (by omega)
        have q1 := hcc 1 (by omega)
        have q2 := hcc 2 (by omega)
        have q3 := hcc 3 (by omega)
        have q4 := hcc 4 (by omega)
        have q5 := hcc 5 (by omega)
        refine ⟨(a0, s1.data.toList, s2.data.toList, bl, a4, cl), _, _, ⟨by simpa [Addr.add] using q0, by rw [← sb_of]; simpa using q1, by rw [← sb_of]; simpa using q2, by simpa using q3, by simpa using q4, by simpa using q5⟩, hb, hcI, ?_, ?_, inR_of w4, hcR⟩
        · simpa using l1
        · simpa using l2
    obtain ⟨Y, hY⟩ := choose_lt (α := OpP) (p := fun i y => ∃ vb vc, (W.cell? (a.add (i * 6)) = some (.int .i64 y.1) ∧ W.cell? ((a.add (i * 6)).add 1) = some (.string (sb y.2.1)) ∧ W.cell? ((a.add (i * 6)).add 2) = some (.string (sb y.2.2.1)) ∧ W.cell? ((a.add (i * 6)).add 3) = some vb ∧ W.cell? ((a.add (i * 6)).add 4) = some (.int .i64 y.2.2.2.2.1) ∧ W.cell? ((a.add (i * 6)).add 5) = some vc) ∧ RdY W vb y.2.2.2.1 ∧ RdI W vc y.2.2.2.2.2 ∧ OpR y) hy
    have hg : ∀ i, i < len → ((List.range len).map Y)[i]! = Y i := by
      intro i hi
      rw [getElem!_pos _ i (by simpa using hi)]; simp
    refine ⟨(List.range len).map Y, ⟨some a, m, by simp, fun i hi => ?_⟩, fun i hi => by
      have hi' : i < len := by simpa using hi
      obtain ⟨_, _, _, _, _, hk⟩ := hY i hi'
      rw [hg i hi']
      exact hk⟩
    have hi' : i < len := by simpa using hi
    obtain ⟨_, _, ⟨q0, _⟩, _⟩ := hY 0 (by omega)
    have ha : a = ⟨a.block, a.off, none⟩ := spot_none (by simpa [Addr.add] using q0)
    obtain ⟨vb, vc, ⟨c0, c1, c2, c3, c4, c5⟩, h1, h2, _⟩ := hY i hi'
    rw [hg i hi']
    rw [ha, Addr.add_lit] at c0
    rw [ha, Addr.add_lit, Addr.add_lit] at c1 c2 c3 c4 c5
    exact ⟨a.block, a.off, vb, vc, by rw [← ha], ⟨c0, c1, c2, c3, c4, c5⟩, h1, h2⟩
end Go.Proofs.Ytpjoaefmpdjjnaa
