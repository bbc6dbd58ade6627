import Derived.Test.YtbnljabeccebiabGreatKs3
import Derived.Test.YtbnljabeccebiabGreatKs40
import Derived.BigQuiet
import Derived.Test.YtbnljabeccebiabGreatKs4
/- theodolitekeep.Vectors: it tells some number. -/
namespace Go.Proofs.YtbnljabeccebiabGreat
open Go.RowKit Go.Sort
set_option maxHeartbeats 2000000 in
set_option maxRecDepth 100000 in
theorem vects_c {w : World} {v : Value} {rs : List Rw} (h : RdW w v rs) (most : Int) (hlen : rs.length ≤ 9223372036854775807) :
    Calls Tryz.prog 13 #[v, .int .i64 most] w fun e w' => (∃ z : Int, e = .returned (.int .i64 z)) ∧ w = w' := by
  obtain ⟨a, cap, rfl, ha⟩ := h
  have A : Hid (∀ i, i < rs.length → ∃ b o u, a = some ⟨b, o, none⟩ ∧ w.cell? ⟨b, o + i * 2, none⟩ = some (.int .i64 rs[i]!.1) ∧ w.cell? ⟨b, o + i * 2 + 1, none⟩ = some u ∧ RdI w u rs[i]!.2) := ha
  obtain ⟨n, hN⟩ : ∃ n, n = rs.length := ⟨_, rfl⟩
  have N : Hid (n = rs.length) := hN
  rw [← hN] at hlen ⊢
  clear ha hN
  go_enter Tryz.func13, Tryz.ntmps13
  go_wp2
  go_loopw [5, 6] (fun zv iv w' => ∃ (q : Nat) (z : Int), zv = .int .i64 z ∧ iv = .int .i64 (q : Int) ∧ q ≤ n ∧ w = w') (fun _ iv _ => n - (intOf iv).toNat)
  case atStart => exact ⟨0, n, rfl, rfl, Nat.zero_le _, rfl⟩
  case round =>
    obtain ⟨q, z, rfl, rfl, hq, rfl⟩ := hrel
    by_cases hqn : q < n
    · have hqi : (q : Int) < (n : Int) := by omega
      by_cases hz : z ≤ most
      · have hql : q < rs.length := by have := N.out; omega
        obtain ⟨b, o, u, ea, hc, hd, hr⟩ := A.out q hql
        obtain ⟨pu, cu, eu, _⟩ := hr
        subst ea; subst eu
        generalize rs[q]!.2.length = k at *
        generalize rs[q]!.1 = x at *
        clear hql
        go_wp2
        go_roundw
        case rel => exact ⟨q + 1, _, rfl, by simp, hqn, by first | rfl | trivial⟩
        case measure => simp [intOf]; omega
      · go_wp2
        go_ret
        exact ⟨⟨_, rfl⟩, by first | rfl | trivial⟩
    · have hqi : ¬ (q : Int) < (n : Int) := by omega
      go_wp2
      go_ret
      exact ⟨⟨_, rfl⟩, by first | rfl | trivial⟩
end Go.Proofs.YtbnljabeccebiabGreat

/- The law's calls, read; its big. -/
namespace Go.Proofs.YtbnljabeccebiabGreat
open Go.RowKit Go.Sort

/-- A call: its kind, id, k and budget, its row, its vector. -/
abbrev Opv : Type := (Int × Int × Int × Int) × Rw × List Int
/-- A slice reads as these calls. -/
def RdO (w : World) (u : Value) (ops : List Opv) : Prop := ∃ a cap, u = .slice a ops.length cap ∧ ∀ i, i < ops.length → ∃ b o rv qv, a = some ⟨b, o, none⟩ ∧
  (w.cell? ⟨b, o + i * 7, none⟩ = some (.int .i64 ops[i]!.1.1) ∧ w.cell? ⟨b, o + i * 7 + 1, none⟩ = some (.int .i64 ops[i]!.1.2.1) ∧ w.cell? ⟨b, o + i * 7 + 2, none⟩ = some (.int .i64 ops[i]!.1.2.2.1) ∧
  w.cell? ⟨b, o + i * 7 + 3, none⟩ = some (.int .i64 ops[i]!.1.2.2.2) ∧ w.cell? ⟨b, o + i * 7 + 4, none⟩ = some (.int .i64 ops[i]!.2.1.1) ∧ w.cell? ⟨b, o + i * 7 + 5, none⟩ = some rv ∧ w.cell? ⟨b, o + i * 7 + 6, none⟩ = some qv) ∧
  RdI w rv ops[i]!.2.1.2 ∧ RdI w qv ops[i]!.2.2
theorem RdO.gb {w w' : World} {v : Value} {l : List Opv} (h : RdO w v l) (g : Gb w w') : RdO w' v l := by
  obtain ⟨a, cap, e, h⟩ := h
  refine ⟨a, cap, e, fun i hi' => ?_⟩
  obtain ⟨b, o, rv, qv, e0, ⟨c0, c1, c2, c3, c4, c5, c6⟩, r1, r2⟩ := h i hi'
  exact ⟨b, o, rv, qv, e0, ⟨gb_keeps g c0, gb_keeps g c1, gb_keeps g c2, gb_keeps g c3, gb_keeps g c4, gb_keeps g c5, gb_keeps g c6⟩, r1.gb g, r2.gb g⟩
theorem rdw_nil (w : World) : RdW w (.slice none 0 0) [] := ⟨none, 0, rfl, fun _i hi => absurd hi (Nat.not_lt_zero _)⟩
theorem rdo_nil (w : World) : RdO w (.slice none 0 0) [] := ⟨none, 0, rfl, fun _i hi => absurd hi (Nat.not_lt_zero _)⟩
/-- What big tells: one or the other. -/
def BigO (w : World) (e : Ending) (w' : World) : Prop := ∃ b, e = .returned (.bool b) ∧ Gb w w'
set_option maxHeartbeats 2000000 in
set_option maxRecDepth 100000 in
theorem kbig_c {w : World} {v u : Value} {rs : List Rw} {ops : List Opv} (hv : RdW w v rs) (hlen : rs.length ≤ 9223372036854775807) (hu : RdO w u ops) :
    Calls Tryz.prog 4 #[v, u] w fun e w' => BigO w e w' := by
  have c := vects_c hv 32768 hlen
  obtain ⟨av, cv, rfl, _⟩ := hv
  have O : Hid (RdO w u ops) := hu
  obtain ⟨au, cu, rfl, _⟩ := hu
  obtain ⟨n, hN⟩ : ∃ n, n = ops.length := ⟨_, rfl⟩
  have N : Hid (n = ops.length) := hN
  rw [← hN] at O ⊢
  clear hN
  generalize rs.length = m at *
  go_enter Tryz.func4, Tryz.ntmps4
  by_cases h1 : 2000 < (n : Int)
  · go_wp2
    go_ret
    exact ⟨_, rfl, Below.refl _ _⟩
  by_cases h2 : 2000 < (m : Int)
  · go_wp2
    go_ret
    exact ⟨_, rfl, Below.refl _ _⟩
  go_wp2_with fail
  refine c.mono ?_
  rintro e w' ⟨⟨z, rfl⟩, e2⟩
  subst e2
  clear c
  by_cases h3 : 32768 < z
  · go_wp2
    go_ret
    exact ⟨_, rfl, Below.refl _ _⟩
  go_wp2
  go_loopw [5, 6] (fun zv iv w' => ∃ (q : Nat) (z : Int), zv = .int .i64 z ∧ iv = .int .i64 (q : Int) ∧ q ≤ n ∧ Hid (Gb w w')) (fun _ iv _ => n - (intOf iv).toNat)
  case atStart => exact ⟨0, 0, rfl, rfl, Nat.zero_le _, Below.refl _ _⟩
  case round =>
    obtain ⟨q, z, rfl, rfl, hq, G⟩ := hrel
    by_cases hqn : q < n
    · have hqi : (q : Int) < (n : Int) := by omega
      by_cases hz : z ≤ 32768
      · rename_i w'
        obtain ⟨a, cap, ea, hO⟩ := (RdO.gb O.out G.out)
        obtain ⟨b, o, rv, qv, e0, ⟨c0, c1, c2, c3, c4, c5, c6⟩, ⟨a1, k1, e1, _⟩, ⟨a2, k2, e2, _⟩⟩ := hO q (by have := N.out; omega)
        injection ea with ea1 ea2 ea3
        subst ea1 ea3 e0 e1 e2
        generalize ops[q]!.2.1.2.length = x1 at *
        generalize ops[q]!.2.2.length = x2 at *
        clear ea2 hO c0 c1 c2 c3 c4
        go_wp2
        go_quiet (fail)
        go_wp2
        go_roundw
        case rel => exact ⟨q + 1, _, rfl, by simp, hqn, gb_trans G.out (gw_drewN (Tk.Gw.refl _) _).gr⟩
        case measure => simp [intOf]; omega
      · go_wp2
        go_ret
        exact ⟨_, rfl, G.out⟩
    · have hqi : ¬ (q : Int) < (n : Int) := by omega
      go_wp2
      go_ret
      exact ⟨_, rfl, G.out⟩
end Go.Proofs.YtbnljabeccebiabGreat

/- A script of calls, a way of building, that came in. -/
namespace Go.Proofs.YtbnljabeccebiabGreat
open Go.ChangeShapes Go.WideShapes Go.ChangeAt Go.RowKit Go.Joins Go.Deep

theorem Tryz.cellsHow : Tryz.prog.cellsOf 25 = 3 := by kernel_rfl
set_option maxRecDepth 100000 in
/-- A way of building that came in. -/
theorem open_how {H : Type} {enc : TypeId × Value → H} {W : World} {b0 : Nat} {r : Reach} {v : Value} {d : DataW H} {p : List MemPlace}
    (hv' : Value.okWide Tryz.prog W r b0 25 v) (h : DataW.Trod enc Tryz.prog W 0 (fun _ => true) true 25 v d p) :
    ∃ A B S : Int, v = .agg #[.int .i64 A, .int .i64 B, .int .u64 S] := by
  obtain ⟨cs, rfl, hsz⟩ := okWide_struct Tryz.underlying25 hv'
  obtain ⟨fuel, hf⟩ := h
  obtain ⟨l⟩ := cs
  simp only [Value.cells] at hf
  obtain ⟨xs, n, _, _, hl, hlen, hf⟩ := DataW.trod_struct Tryz.underlying25 hf
  rw [Tryz.cellsHow] at hl
  match xs, hlen, l, hl with
  | [y0, y1, y2], _, [c0, c1, c2], _ =>
    obtain ⟨a0, e0, _⟩ := DataW.trod_int Tryz.underlying3 (by simpa using hf 0 _ rfl)
    obtain ⟨a1, e1, _⟩ := DataW.trod_int Tryz.underlying3 (by simpa using hf 1 _ rfl)
    obtain ⟨a2, e2, _⟩ := DataW.trod_int Tryz.underlying23 (by simpa using hf 2 _ rfl)
    simp [Tryz.cells3, Tryz.cells23] at e0 e1 e2
    subst e0 e1 e2
    exact ⟨a0, a1, a2, rfl⟩
theorem trod_struct6 {H : Type} {enc : TypeId × Value → H} {w : World} {base : Nat} {spare : Nat → Bool} {held : Bool} {t : TypeId} {f0 f1 f2 f3 f4 f5 : Field} {fuel : Nat} {cs : List Value} {x : DataW H × List MemPlace} (ht : Tryz.prog.underlying t = some (.struct #[f0, f1, f2, f3, f4, f5])) (h : DataW.trod enc Tryz.prog w base spare held fuel t cs = some x) :
    ∃ y0 y1 y2 y3 y4 y5 n, cs.length = Tryz.prog.cellsOf t ∧ DataW.trod enc Tryz.prog w base spare held n f0.type ((cs.drop f0.offset).take (Tryz.prog.cellsOf f0.type)) = some y0 ∧
      DataW.trod enc Tryz.prog w base spare held n f1.type ((cs.drop f1.offset).take (Tryz.prog.cellsOf f1.type)) = some y1 ∧ DataW.trod enc Tryz.prog w base spare held n f2.type ((cs.drop f2.offset).take (Tryz.prog.cellsOf f2.type)) = some y2 ∧
      DataW.trod enc Tryz.prog w base spare held n f3.type ((cs.drop f3.offset).take (Tryz.prog.cellsOf f3.type)) = some y3 ∧ DataW.trod enc Tryz.prog w base spare held n f4.type ((cs.drop f4.offset).take (Tryz.prog.cellsOf f4.type)) = some y4 ∧
      DataW.trod enc Tryz.prog w base spare held n f5.type ((cs.drop f5.offset).take (Tryz.prog.cellsOf f5.type)) = some y5 := by
  obtain ⟨xs, n, _, rfl, hl, hlen, hf⟩ := DataW.trod_struct ht h
  match xs, hlen with
  | [y0, y1, y2, y3, y4, y5], _ => exact ⟨y0, y1, y2, y3, y4, y5, n, hl, by simpa using hf 0 f0 rfl, by simpa using hf 1 f1 rfl, by simpa using hf 2 f2 rfl, by simpa using hf 3 f3 rfl, by simpa using hf 4 f4 rfl, by simpa using hf 5 f5 rfl⟩
theorem Tryz.cellsOp : Tryz.prog.cellsOf 51 = 7 := by kernel_rfl
set_option maxRecDepth 100000 in
/-- A script that came in. -/
theorem open_ops {H : Type} {enc : TypeId × Value → H} {W : World} {b0 : Nat} {r : Reach} {v : Value} {d : DataW H} {p : List MemPlace}
    (hv' : Value.okWide Tryz.prog W r b0 26 v) (h : DataW.Trod enc Tryz.prog W 0 (fun _ => true) true 26 v d p) :
    ∃ ops : List Opv, RdO W v ops ∧ ops.length ≤ maxLen := by
  obtain ⟨a0, len, cap, rfl⟩ := okWide_slice Tryz.underlying26 hv'
  obtain ⟨fuel, hf⟩ := h
  rcases open_slice Tryz.underlying26 (by simpa [Value.cells] using hf) with ⟨e, _⟩ | ⟨a, len, cap, m, n, D, Pl, e, _, hlc, hcm, hm, _, hx⟩
  · cases e
    exact ⟨[], rdo_nil W, Nat.zero_le _⟩
  · cases e
    rw [if_pos rfl] at hm
    subst hm
    have hy : ∀ i, i < len → ∃ y : Opv, ∃ rv qv, (W.cell? (a.add (i * 7)) = some (.int .i64 y.1.1) ∧ W.cell? ((a.add (i * 7)).add 1) = some (.int .i64 y.1.2.1) ∧ W.cell? ((a.add (i * 7)).add 2) = some (.int .i64 y.1.2.2.1) ∧ W.cell? ((a.add (i * 7)).add 3) = some (.int .i64 y.1.2.2.2) ∧ W.cell? ((a.add (i * 7)).add 4) = some (.int .i64 y.2.1.1) ∧ W.cell? ((a.add (i * 7)).add 5) = some rv ∧ W.cell? ((a.add (i * 7)).add 6) = some qv) ∧ RdI W rv y.2.1.2 ∧ RdI W qv y.2.2 := by
      intro i hi
      obtain ⟨cs, hc, ht⟩ := hx i (by omega)
      obtain ⟨y0, y1, y2, y3, y4, y5, k, hl, k0, k1, k2, k3, k4, k5⟩ := trod_struct6 Tryz.underlying51 ht
      rw [Tryz.cellsOp] at hl hc
      match cs, hl with
      | [c0, c1, c2, c3, c4, c5, c6], _ =>
        obtain ⟨z0, z1, m, _, hl1, j0, j1⟩ := trod_struct2 Tryz.underlying49 k4
        obtain ⟨a0, e0, _⟩ := DataW.trod_int Tryz.underlying3 k0
        obtain ⟨a1, e1, _⟩ := DataW.trod_int Tryz.underlying3 k1
        obtain ⟨a2, e2, _⟩ := DataW.trod_int Tryz.underlying3 k2
        obtain ⟨a3, e3, _⟩ := DataW.trod_int Tryz.underlying3 k3
        obtain ⟨a4, e4, _⟩ := DataW.trod_int Tryz.underlying3 j0
        obtain ⟨rv, rl, e5, hr, _⟩ := trod22 j1
        obtain ⟨qv, ql, e6, hq, _⟩ := trod22 k5
        simp [Tryz.cells3, Tryz.cells27, Tryz.cells49] at e0 e1 e2 e3 e4 e5 e6
        subst e0 e1 e2 e3 e4 e5 e6
        obtain ⟨_, _, hcc⟩ := World.cells?_some hc
        have q0 := hcc 0 (by omega)
        have q1 := hcc 1 (by omega)
        have q2 := hcc 2 (by omega)
        have q3 := hcc 3 (by omega)
        have q4 := hcc 4 (by omega)
        have q5 := hcc 5 (by omega)
        have q6 := hcc 6 (by omega)
        exact ⟨((a0, a1, a2, a3), (a4, rl), ql), _, _, ⟨by simpa [Addr.add] using q0, by simpa using q1, by simpa using q2, by simpa using q3, by simpa using q4, by simpa using q5, by simpa using q6⟩, hr, hq⟩
    obtain ⟨Y, hY⟩ := choose_lt (α := Opv) (p := fun i y => ∃ rv qv, (W.cell? (a.add (i * 7)) = some (.int .i64 y.1.1) ∧ W.cell? ((a.add (i * 7)).add 1) = some (.int .i64 y.1.2.1) ∧ W.cell? ((a.add (i * 7)).add 2) = some (.int .i64 y.1.2.2.1) ∧ W.cell? ((a.add (i * 7)).add 3) = some (.int .i64 y.1.2.2.2) ∧ W.cell? ((a.add (i * 7)).add 4) = some (.int .i64 y.2.1.1) ∧ W.cell? ((a.add (i * 7)).add 5) = some rv ∧ W.cell? ((a.add (i * 7)).add 6) = some qv) ∧ RdI W rv y.2.1.2 ∧ RdI W qv y.2.2) hy
    have hg : ∀ i, i < len → ((List.range len).map Y)[i]! = Y i := by
      intro i hi
      rw [getElem!_pos _ i (by simpa using hi)]; simp
    refine ⟨(List.range len).map Y, ⟨some a, m, by simp, fun i hi => ?_⟩, by simp; omega⟩
    have hi' : i < len := by simpa using hi
    obtain ⟨_, _, ⟨q0, _⟩, _⟩ := hY 0 (by omega)
    have ha : a = ⟨a.block, a.off, none⟩ := spot_none (by simpa [Addr.add] using q0)
    obtain ⟨rv, qv, ⟨c0, c1, c2, c3, c4, c5, c6⟩, h1, h2⟩ := hY i hi'
    rw [hg i hi']
    rw [ha, Addr.add_lit] at c0
    rw [ha, Addr.add_lit, Addr.add_lit] at c1 c2 c3 c4 c5 c6
    exact ⟨a.block, a.off, rv, qv, by rw [← ha], ⟨c0, c1, c2, c3, c4, c5, c6⟩, h1, h2⟩
end Go.Proofs.YtbnljabeccebiabGreat

/- A search that is refused; a tree that is not built. -/
namespace Go.Proofs.YtbnljabeccebiabGreat
open Go.RowKit Go.Sort

/-- What Search answers. -/
def srchE (m : Nat) (q : List Int) (k b : Int) : Int := if chk q (m : Int) = 0 then (if (1 ≤ k ∧ k ≤ 64) ∧ 0 ≤ b ∧ b ≤ 1000000 then 0 else 1) else chk q (m : Int)
theorem srchE_zero {m : Nat} {q : List Int} {k b : Int} : srchE m q k b = 0 ↔ chk q (m : Int) = 0 ∧ (1 ≤ k ∧ k ≤ 64) ∧ 0 ≤ b ∧ b ≤ 1000000 := by
  unfold srchE
  by_cases h : chk q (m : Int) = 0
  · rw [if_pos h]
    split
    · rename_i h1; exact ⟨fun _ => ⟨h, h1⟩, fun _ => rfl⟩
    · rename_i h1; exact ⟨fun e => absurd e (by decide), fun e => absurd e.2 h1⟩
  · rw [if_neg h]
    exact ⟨fun e => absurd e h, fun e => absurd e.1 h⟩
theorem knew_bad (k : Int) (hk : k < 1 ∨ 64 < k) (w : World) : Calls Tryz.prog 20 #[.int .i64 k] w fun e w' => e = .returned (.tuple #[.pointer none, .int .i64 1]) ∧ w' = w := by
  rcases hk with h | h
  · exact Tk.new_lo k h w
  · exact Tk.new_hi k h w
set_option maxHeartbeats 1000000 in
theorem ksearch_no {Iq : Nat → Prop} {w : World} {tb m leaf : Nat} {rs : List Rw} {F : List Nat} (h : TreeAt Iq w tb m leaf rs F) {u : Value} {q : List Int} (hu : RdI w u q) (k b : Int) (hz : srchE m q k b ≠ 0) :
    Calls Tryz.prog 8 #[.pointer (some ⟨tb, 0, none⟩), u, .int .i64 k, .int .i64 b] w fun e w' => e = .returned (.tuple #[.agg #[.slice none 0 0, .slice none 0 0, .slice none 0 0], .int .i64 (srchE m q k b)]) ∧ Gb w w' := by
  obtain ⟨_, _, _, c0, _⟩ := h.cells
  have g1 : Gb w (w.alloc (.cells #[.slice none 0 0, .slice none 0 0, .slice none 0 0] 38)) := gb_alloc (Below.refl _ _) _
  have G : Hid (Gb w (w.alloc (.cells #[.slice none 0 0, .slice none 0 0, .slice none 0 0] 38))) := g1
  have e0 := gb_keeps g1 c0
  obtain ⟨x, hx⟩ : ∃ x, x = chk q (m : Int) := ⟨_, rfl⟩
  have cK := check_v (hu.gb g1) (m : Int) x hx.symm
  have hE : srchE m q k b = if x = 0 then (if (1 ≤ k ∧ k ≤ 64) ∧ 0 ≤ b ∧ b ≤ 1000000 then 0 else 1) else x := by rw [hx]; rfl
  rw [hE] at hz ⊢
  obtain ⟨ua, uc, eu, _⟩ := hu.rd0
  subst eu
  generalize q.length = nq at *
  clear hE hx hu h c0 g1
  by_cases h1 : x = 0
  · subst h1
    rw [if_pos rfl] at hz ⊢
    by_cases h2 : 1 ≤ k ∧ k ≤ 64
    · by_cases h3 : 0 ≤ b ∧ b ≤ 1000000
      · rw [if_pos ⟨h2, h3⟩] at hz; exact absurd rfl hz
      · rw [if_neg (fun h => h3 h.2)]
        have cN := Tk.new_ok k h2.1 h2.2 (w.alloc (.cells #[.slice none 0 0, .slice none 0 0, .slice none 0 0] 38))
        clear hz h2
        by_cases h4 : b < 0
        · go_enter Tryz.func8, Tryz.ntmps8
          go_wp2_with fail
          go_fit cK
          rintro e w1 ⟨rfl, rfl⟩
          clear cK
          go_wp2_with fail
          go_fit cN
          rintro e w2 ⟨rfl, rfl⟩
          clear cN h3
          go_wp2
          refine bodyPost_ret (v := .tuple #[.agg #[.slice none 0 0, .slice none 0 0, .slice none 0 0], .int .i64 1]) (by simp [results, Tryz.results8, go_sem]) rfl ⟨rfl, ?_⟩
          go_grown
        · have h5 : (1000000 : Int) < b := by omega
          clear h3
          go_enter Tryz.func8, Tryz.ntmps8
          go_wp2_with fail
          go_fit cK
          rintro e w1 ⟨rfl, rfl⟩
          clear cK
          go_wp2_with fail
          go_fit cN
          rintro e w2 ⟨rfl, rfl⟩
          clear cN
          go_wp2
          refine bodyPost_ret (v := .tuple #[.agg #[.slice none 0 0, .slice none 0 0, .slice none 0 0], .int .i64 1]) (by simp [results, Tryz.results8, go_sem]) rfl ⟨rfl, ?_⟩
          go_grown
    · rw [if_neg (fun h => h2 h.1)]
      have cN := knew_bad k (by omega) (w.alloc (.cells #[.slice none 0 0, .slice none 0 0, .slice none 0 0] 38))
      clear hz h2
      go_enter Tryz.func8, Tryz.ntmps8
      go_wp2_with fail
      go_fit cK
      rintro e w1 ⟨rfl, rfl⟩
      clear cK
      go_wp2_with fail
      go_fit cN
      rintro e w2 ⟨rfl, rfl⟩
      clear cN
      go_wp2
      refine bodyPost_ret (v := .tuple #[.agg #[.slice none 0 0, .slice none 0 0, .slice none 0 0], .int .i64 1]) (by simp [results, Tryz.results8, go_sem]) rfl ⟨rfl, ?_⟩
      exact G.out
  · have h2 : (x == 0) = false := by rw [beq_eq_false_iff_ne]; exact h1
    rw [if_neg h1] at hz ⊢
    go_enter Tryz.func8, Tryz.ntmps8
    go_wp2_with fail
    go_fit cK
    rintro e w1 ⟨rfl, rfl⟩
    clear cK
    go_wp2
    refine bodyPost_ret (v := .tuple #[.agg #[.slice none 0 0, .slice none 0 0, .slice none 0 0], .int .i64 x]) (by simp [results, Tryz.results8, go_sem]) rfl ⟨rfl, ?_⟩
    exact G.out

/-- What building answers. -/
def bldE (rs : List Rw) (d leaf : Int) : Int := if flatE rs d = 0 then (if 1 ≤ leaf ∧ leaf ≤ 64 then 0 else 1) else flatE rs d
theorem kbuild_no {w : World} {v : Value} {rs : List Rw} (h : RdW w v rs) (hwf : Wf rs) (d leaf B S : Int) (hz : bldE rs d leaf ≠ 0) :
    Calls Tryz.prog 5 #[v, .int .i64 d, .agg #[.int .i64 leaf, .int .i64 B, .int .u64 S]] w fun e w' => e = .returned (.tuple #[.pointer none, .int .i64 (bldE rs d leaf)]) ∧ Gb w w' := by
  have g1 : Gb w (w.alloc (.cells #[.int .i64 leaf, .int .i64 B, .int .u64 S] 25)) := gb_alloc (Below.refl _ _) _
  have cB : Calls Tryz.prog 14 #[v, .int .i64 d, .int .i64 leaf] (w.alloc (.cells #[.int .i64 leaf, .int .i64 B, .int .u64 S] 25)) fun e w' => e = .returned (.tuple #[.pointer none, .int .i64 (bldE rs d leaf)]) ∧ Gb w w' := by
    by_cases h1 : flatE rs d = 0
    · by_cases h2 : 1 ≤ leaf ∧ leaf ≤ 64
      · unfold bldE at hz; rw [if_pos h1, if_pos h2] at hz; exact absurd rfl hz
      · have e : bldE rs d leaf = 1 := by unfold bldE; rw [if_pos h1, if_neg h2]
        rw [e]
        exact (build_leaf (h.gb g1) hwf d leaf h1 (by omega)).mono fun e w' ⟨h3, h4⟩ => ⟨h3, gb_trans g1 h4⟩
    · have e : bldE rs d leaf = flatE rs d := by unfold bldE; rw [if_neg h1]
      rw [e]
      exact (build_no (h.gb g1) hwf d leaf h1).mono fun e w' ⟨h3, h4⟩ => ⟨h3, gb_trans g1 h4⟩
  obtain ⟨a, c, e, _⟩ := h
  subst e
  generalize rs.length = n at *
  generalize bldE rs d leaf = z at *
  clear g1 hwf
  go_enter Tryz.func5, Tryz.ntmps5
  go_wp2_with fail
  go_fit cB
  rintro e w1 ⟨rfl, hG⟩
  have HG : Hid _ := hG
  clear cB hG
  go_wp2
  refine bodyPost_ret (v := .tuple #[.pointer none, .int .i64 z]) (by simp [results, Tryz.results5, go_sem]) rfl ⟨rfl, ?_⟩
  exact HG.out
end Go.Proofs.YtbnljabeccebiabGreat

/- The law's tree: it lies in blocks that are younger than what was handed in. -/
namespace Go.Proofs.YtbnljabeccebiabGreat
open Go.RowKit Go.Sort

theorem put_old {Iq : Nat → Prop} {w0 W : World} {tb m leaf : Nat} {rs : List Rw} {F : List Nat} {xi : Int} {u : Value} {xl : List Int} (h : TreeAt Iq W tb m leaf rs F) (g : Gb w0 W) (hu : RdI w0 u xl) (hF : ∀ x ∈ F, w0.heap.size ≤ x) :
    Calls Tryz.prog 17 #[.pointer (some ⟨tb, 0, none⟩), .agg #[.int .i64 xi, u]] W fun e w' => e = .returned (.tuple #[.bool (decide (putE m rs (xi, xl) = 0) && !hasId rs xi), .int .i64 (putE m rs (xi, xl))]) ∧ TOut Iq W tb m leaf F (if putE m rs (xi, xl) = 0 then putRw rs (xi, xl) else rs) w' := by
  by_cases hx : xl = []
  · subst hx
    have hm := h.rok.2
    have h2 : chk [] (m : Int) ≠ 0 := fun e => by
      have := (chk_ok e).2.2.1
      simp at this
      omega
    have fin : ∀ e0 : Int, putE m rs (xi, []) = e0 → e0 ≠ 0 → (Calls Tryz.prog 17 #[.pointer (some ⟨tb, 0, none⟩), .agg #[.int .i64 xi, u]] W fun e w' => e = .returned (.tuple #[.bool false, .int .i64 e0]) ∧ Gb W w') → Calls Tryz.prog 17 #[.pointer (some ⟨tb, 0, none⟩), .agg #[.int .i64 xi, u]] W fun e w' => e = .returned (.tuple #[.bool (decide (putE m rs (xi, []) = 0) && !hasId rs xi), .int .i64 (putE m rs (xi, []))]) ∧ TOut Iq W tb m leaf F (if putE m rs (xi, []) = 0 then putRw rs (xi, []) else rs) w' := by
      intro e0 he h0 c
      refine c.mono ?_
      rintro e w' ⟨rfl, g⟩
      rw [he, if_neg h0, decide_eq_false h0]
      exact ⟨rfl, F, h.gb g, fun y hy => .inl hy, Tk.Kp.of_gr g⟩
    by_cases h1 : okId xi = true
    · exact fin _ (by unfold putE; rw [if_pos h1, if_neg h2]) h2 (put_chk h (hu.gb g) h1 rfl h2)
    · exact fin 50 (by unfold putE; rw [if_neg h1]) (by decide) (put_id h (hu.gb g) (Bool.eq_false_iff.2 h1))
  · refine put_c h (hu.gb g) ?_
    intro b o n c e hb
    obtain ⟨a, c', e', hc⟩ := hu
    rw [e'] at e
    cases e
    obtain ⟨b', o', e2, hcell⟩ := hc 0 (List.length_pos_iff.2 hx)
    cases e2
    have h1 := World.block_lt_of_cell? w0 _ hcell
    have h2 := hF _ hb
    exact absurd h1 (Nat.not_lt.2 h2)

/-- The law's tree. -/
def TrW (Iq : Nat → Prop) (w0 : World) (tb m leaf : Nat) (rs : List Rw) (W : World) : Prop := ∃ F, TreeAt Iq W tb m leaf rs F ∧ (∀ x ∈ F, w0.heap.size ≤ x) ∧ Gb w0 W
theorem TrW.gb {Iq : Nat → Prop} {w0 W W' : World} {tb m leaf : Nat} {rs : List Rw} (h : TrW Iq w0 tb m leaf rs W) (g : Gb W W') : TrW Iq w0 tb m leaf rs W' := by
  obtain ⟨F, t, hF, g0⟩ := h
  exact ⟨F, t.gb g, hF, gb_trans g0 g⟩
theorem TrW.old {Iq : Nat → Prop} {w0 W : World} {tb m leaf : Nat} {rs : List Rw} (h : TrW Iq w0 tb m leaf rs W) : Gb w0 W := by
  obtain ⟨_, _, _, g⟩ := h
  exact g
theorem TrW.out {Iq : Nat → Prop} {w0 W W' : World} {tb m leaf : Nat} {rs' : List Rw} {F : List Nat} (hF : ∀ x ∈ F, w0.heap.size ≤ x) (g : Gb w0 W) (h : TOut Iq W tb m leaf F rs' W') : TrW Iq w0 tb m leaf rs' W' := by
  obtain ⟨F', t, l, k⟩ := h
  have s := g.size
  refine ⟨F', t, fun x hx => ?_, g.trans (k.gr s hF)⟩
  rcases l x hx with h | h
  · exact hF x h
  · omega
theorem trw_put {Iq : Nat → Prop} {w0 W : World} {tb m leaf : Nat} {rs : List Rw} {u : Value} {xl : List Int} (h : TrW Iq w0 tb m leaf rs W) (xi : Int) (hu : RdI w0 u xl) :
    Calls Tryz.prog 17 #[.pointer (some ⟨tb, 0, none⟩), .agg #[.int .i64 xi, u]] W fun e w' => e = .returned (.tuple #[.bool (decide (putE m rs (xi, xl) = 0) && !hasId rs xi), .int .i64 (putE m rs (xi, xl))]) ∧ TrW Iq w0 tb m leaf (if putE m rs (xi, xl) = 0 then putRw rs (xi, xl) else rs) w' := by
  obtain ⟨F, t, hF, g⟩ := h
  exact (put_old t g hu hF).mono fun e w' ⟨h1, h2⟩ => ⟨h1, TrW.out hF g h2⟩
theorem trw_del {Iq : Nat → Prop} {w0 W : World} {tb m leaf : Nat} {rs : List Rw} (h : TrW Iq w0 tb m leaf rs W) (id : Int) :
    Calls Tryz.prog 18 #[.pointer (some ⟨tb, 0, none⟩), .int .i64 id] W fun e w' => e = .returned (.tuple #[.bool (hasId rs id), .int .i64 0]) ∧ TrW Iq w0 tb m leaf (delRw rs id) w' := by
  obtain ⟨F, t, hF, g⟩ := h
  exact (delete_c t id).mono fun e w' ⟨h1, h2⟩ => ⟨h1, TrW.out hF g h2⟩
theorem trw_len {Iq : Nat → Prop} {w0 W : World} {tb m leaf : Nat} {rs : List Rw} (h : TrW Iq w0 tb m leaf rs W) :
    Calls Tryz.prog 16 #[.pointer (some ⟨tb, 0, none⟩)] W fun e w' => e = .returned (.int .i64 (rs.length : Nat)) ∧ w' = W := by
  obtain ⟨F, t, _⟩ := h
  exact len_c t
theorem trw_rows {Iq : Nat → Prop} {w0 W : World} {tb m leaf : Nat} {rs : List Rw} (h : TrW Iq w0 tb m leaf rs W) :
    Calls Tryz.prog 11 #[.pointer (some ⟨tb, 0, none⟩)] W fun e w' => ∃ v', e = .returned v' ∧ OwnC w' W.heap.size v' rs ∧ Gb W w' := by
  obtain ⟨F, t, _⟩ := h
  exact rows_c t
/-- A built tree is the law's. -/
theorem trw_of {Iq : Nat → Prop} {w W : World} {m leaf : Nat} {rs : List Rw} {e : Ending} (h : TreeOut Iq w m leaf rs e W) : ∃ tb rs', e = .returned (.tuple #[.pointer (some ⟨tb, 0, none⟩), .int .i64 0]) ∧ TrW Iq w tb m leaf rs' W ∧ rs'.Perm rs ∧ Ris rs' := by
  obtain ⟨tb, rs', F, e1, t, p, g, hF⟩ := h
  exact ⟨tb, rs', e1, ⟨F, t, hF, g⟩, p, t.ris⟩
/-- What a search answers whose budget is for all; k: how many. -/
def WhO (Iq : Nat → Prop) (w0 : World) (tb m leaf : Nat) (rs : List Rw) (q : List Int) (k b : Int) (e : Ending) (W' : World) : Prop := ∃ a1 n1 c1 a2 n2 c2 a3 n3 c3, e = .returned (.tuple #[.agg #[.slice a1 n1 c1, .slice a2 n2 c2, .slice a3 n3 c3], .int .i64 (srchE m q k b)]) ∧
  TrW Iq w0 tb m leaf rs W' ∧ ((srchE m q k b ≠ 0 ∨ rs = []) → n1 = 0 ∧ n2 = 0 ∧ n3 = 0) ∧ (srchE m q k b = 0 → rs.length ≤ b → Tk.Own W' (.slice a1 n1 c1) (Tk.firsts k.toNat (hitsOf q rs)).toArray) ∧ n2 ≤ rs.length ∧ (srchE m q k b ≠ 0 → a1 = none ∧ c1 = 0)
theorem trw_search {Iq : Nat → Prop} {w0 W : World} {tb m leaf : Nat} {rs : List Rw} (h : TrW Iq w0 tb m leaf rs W) {u : Value} {q : List Int} (hu : RdI W u q) (k b : Int) :
    Calls Tryz.prog 8 #[.pointer (some ⟨tb, 0, none⟩), u, .int .i64 k, .int .i64 b] W fun e W' => WhO Iq w0 tb m leaf rs q k b e W' := by
  have h0 := h
  obtain ⟨F, t, hF, g⟩ := h0
  by_cases hz : srchE m q k b = 0
  · obtain ⟨hq, hk, hb⟩ := srchE_zero.1 hz
    obtain ⟨K, rfl⟩ := Int.eq_ofNat_of_zero_le (show 0 ≤ k by omega)
    obtain ⟨B, rfl⟩ := Int.eq_ofNat_of_zero_le hb.1
    obtain ⟨T, N, R, hI, hs, c⟩ := kd_search t hq (k := K) (b := B) (by omega) (by omega)
    refine (c W u (Below.refl _ _) hu).mono ?_
    rintro e W' ⟨vh, vs, vr, rfl, hA⟩
    obtain ⟨a3, c3, e3⟩ := hA.rest.form
    obtain ⟨a2, c2, e2, _⟩ := hA.seen.rd
    have hl : (srt (idsOf R.seen)).length = R.seen.length := by rw [srt_len]; simp [idsOf]
    have hrl := hI.rows.length_eq
    rw [List.length_append] at hrl
    have h1 : ∃ a1 c1, vh = .slice a1 (Tk.firsts K (hitsOf q R.seen)).length c1 := by
      rcases hA.hits.2 with ⟨e, h0⟩ | ⟨g', cap, cur, e, _⟩
      · exact ⟨none, 0, by rw [e]; simp only [List.size_toArray] at h0; rw [h0]⟩
      · exact ⟨some ⟨g', 0, none⟩, cap, by rw [e]; simp⟩
    obtain ⟨a1, c1, e1⟩ := h1
    subst e1 e2 e3
    refine ⟨a1, _, c1, a2, _, c2, a3, _, c3, by rw [hz], h.gb hA.gb, ?_, ?_, by omega, fun hn => absurd hz hn⟩
    · rintro (hn | rfl)
      · exact absurd hz hn
      · simp only [List.length_nil] at hrl
        have hs0 : R.seen = [] := List.length_eq_zero_iff.1 (by omega)
        have ho : R.opn = [] := by
          cases ho : R.opn with
          | nil => rfl
          | cons p r =>
            have h3 := List.length_pos_iff.2 (okP_ne N p (hI.ok p (by rw [ho]; exact List.mem_cons_self)))
            rw [ho, List.flatMap_cons, List.length_append] at hrl
            omega
        refine ⟨?_, ?_, ?_⟩
        · rw [hs0, Tk.firsts_len]; simp [hitsOf]
        · rw [hl, hs0]; rfl
        · rw [ho]; rfl
    · intro _ hlb
      have := hA.hits
      rw [search_whole hq hI hs (.inl (by omega))] at this
      rw [search_whole hq hI hs (.inl (by omega))]
      exact this
  · refine (ksearch_no t hu k b hz).mono ?_
    rintro e W' ⟨rfl, g'⟩
    exact ⟨none, 0, 0, none, 0, 0, none, 0, 0, rfl, h.gb g', fun _ => ⟨rfl, rfl, rfl⟩, fun e => absurd e hz, Nat.zero_le _, fun _ => ⟨rfl, rfl⟩⟩
end Go.Proofs.YtbnljabeccebiabGreat
