import Derived.Test.YtdmdjmliggjbjaaGreatCt40
import Derived.Test.YtdmdjmliggjbjaaGreatCt38
import Derived.Test.YtdmdjmliggjbjaaGreatCt18
import Derived.BigQuiet
/- An answer that came in, opened, with the form's own reach. -/
namespace Go.Proofs.YtdmdjmliggjbjaaGreat
open Go.ChangeShapes Go.WideShapes Go.ChangeAt Go.RowKit Go.Joins Go.Deep

theorem Tryz.cells43 : Tryz.prog.cellsOf 43 = 3 := by kernel_rfl
theorem Tryz.cells27 : Tryz.prog.cellsOf 27 = 3 := by kernel_rfl
theorem Tryz.cells24 : Tryz.prog.cellsOf 24 = 1 := by kernel_rfl
theorem Tryz.cells25 : Tryz.prog.cellsOf 25 = 1 := by kernel_rfl
theorem Tryz.bytesH : Tryz.prog.bytesOf 43 = 24 := by kernel_rfl
theorem Tryz.bytesG : Tryz.prog.bytesOf 48 = 96 := by kernel_rfl
/-- A list of numbers, read: each is one of 64 bits. -/
theorem trodI_wf {H : Type} {enc : TypeId × Value → H} {W : World} {base fuel : Nat} {hd : Bool} {v : Value} {l : List Int} {x : DataW H × List MemPlace}
    (h : DataW.trod enc Tryz.prog W base (fun _ => true) hd fuel 23 [v] = some x) (hr : RdI W v l) : ∀ i, i < l.length → KWf l[i]! := by
  obtain ⟨ar, cr, er, hr⟩ := hr
  rcases open_slice1 Tryz.underlying23 Tryz.cells3 h with ⟨e, _⟩ | ⟨a, len, cap, m, n, V, D, Pl, e, _, hlc, hcm, hm, _, hx⟩
  · injection e with e
    rw [e] at er
    injection er with _ e2 _
    intro i hi'
    omega
  · injection e with e
    rw [e] at er
    injection er with e1 e2 _
    rw [if_pos rfl] at hm
    intro i hi'
    obtain ⟨hc, ht⟩ := hx i (by omega)
    obtain ⟨y, e, _, wy⟩ := DataW.trod_int Tryz.underlying3 ht
    simp at e
    obtain ⟨b, o, ea, hcell⟩ := hr i hi'
    rw [ea] at e1
    injection e1 with e1
    rw [e1, Addr.add_lit, hcell] at hc
    injection hc with hc
    rw [e] at hc
    injection hc with _ hc
    rw [hc]
    exact KWf.of wy
theorem trod_struct3 {H : Type} {enc : TypeId × Value → H} {w : World} {base : Nat} {spare : Nat → Bool} {held : Bool} {t : TypeId} {f0 f1 f2 : Field} {fuel : Nat} {cs : List Value} {x : DataW H × List MemPlace} (ht : Tryz.prog.underlying t = some (.struct #[f0, f1, f2])) (h : DataW.trod enc Tryz.prog w base spare held fuel t cs = some x) :
    ∃ y0 y1 y2 n, x.1 = .agg [y0.1, y1.1, y2.1] ∧ cs.length = Tryz.prog.cellsOf t ∧ DataW.trod enc Tryz.prog w base spare held n f0.type ((cs.drop f0.offset).take (Tryz.prog.cellsOf f0.type)) = some y0 ∧
      DataW.trod enc Tryz.prog w base spare held n f1.type ((cs.drop f1.offset).take (Tryz.prog.cellsOf f1.type)) = some y1 ∧ DataW.trod enc Tryz.prog w base spare held n f2.type ((cs.drop f2.offset).take (Tryz.prog.cellsOf f2.type)) = some y2 := by
  obtain ⟨xs, n, _, rfl, hl, hlen, hf⟩ := DataW.trod_struct ht h
  match xs, hlen with
  | [y0, y1, y2], _ => exact ⟨y0, y1, y2, n, by simp, hl, by simpa using hf 0 f0 rfl, by simpa using hf 1 f1 rfl, by simpa using hf 2 f2 rfl⟩
theorem trod_five {H : Type} {enc : TypeId × Value → H} {w : World} {base : Nat} {spare : Nat → Bool} {held : Bool} {t : TypeId} {f0 f1 f2 f3 f4 : Field} {fuel : Nat} {cs : List Value} {x : DataW H × List MemPlace} (ht : Tryz.prog.underlying t = some (.struct #[f0, f1, f2, f3, f4])) (h : DataW.trod enc Tryz.prog w base spare held fuel t cs = some x) :
    ∃ y0 y1 y2 y3 y4 n, x.1 = .agg [y0.1, y1.1, y2.1, y3.1, y4.1] ∧ cs.length = Tryz.prog.cellsOf t ∧ DataW.trod enc Tryz.prog w base spare held n f0.type ((cs.drop f0.offset).take (Tryz.prog.cellsOf f0.type)) = some y0 ∧
      DataW.trod enc Tryz.prog w base spare held n f1.type ((cs.drop f1.offset).take (Tryz.prog.cellsOf f1.type)) = some y1 ∧ DataW.trod enc Tryz.prog w base spare held n f2.type ((cs.drop f2.offset).take (Tryz.prog.cellsOf f2.type)) = some y2 ∧
      DataW.trod enc Tryz.prog w base spare held n f3.type ((cs.drop f3.offset).take (Tryz.prog.cellsOf f3.type)) = some y3 ∧ DataW.trod enc Tryz.prog w base spare held n f4.type ((cs.drop f4.offset).take (Tryz.prog.cellsOf f4.type)) = some y4 := by
  obtain ⟨xs, n, _, rfl, hl, hlen, hf⟩ := DataW.trod_struct ht h
  match xs, hlen with
  | [y0, y1, y2, y3, y4], _ => exact ⟨y0, y1, y2, y3, y4, n, by simp, hl, by simpa using hf 0 f0 rfl, by simpa using hf 1 f1 rfl, by simpa using hf 2 f2 rfl, by simpa using hf 3 f3 rfl, by simpa using hf 4 f4 rfl⟩
set_option maxRecDepth 100000 in
theorem trod_hits {H : Type} {enc : TypeId × Value → H} {W : World} {base fuel : Nat} {cs : List Value} {x : DataW H × List MemPlace}
    (h : DataW.trod enc Tryz.prog W base (fun _ => true) true fuel 24 cs = some x) (hw : ∀ n ∈ x.1.weights Tryz.prog 24, n ≤ reachBytes) :
    ∃ v l, cs = [v] ∧ Tk.Rd W v l ∧ l.length ≤ reachBytes := by
  rcases open_slice Tryz.underlying24 h with ⟨e, _⟩ | ⟨a, len, cap, m, n, D, Pl, e, _, hlc, hcm, hm, hD, hx⟩
  · exact ⟨.slice none 0 0, [], e, .inl ⟨rfl, rfl⟩, Nat.zero_le _⟩
  · rw [if_pos rfl] at hm
    subst hm
    have hd : x.1 = .slice ((List.range len).map D) ((List.range (m - len)).map fun j => D (len + j)) := congrArg Prod.fst hD
    rw [hd] at hw
    have hw0 := hw ((((List.range len).map D).length + ((List.range (m - len)).map fun j => D (len + j)).length) * Tryz.prog.bytesOf 43) (by simp [DataW.weights, Tryz.underlying24])
    rw [Tryz.bytesH] at hw0
    simp only [List.length_map, List.length_range] at hw0
    have hy : ∀ i, i < len → ∃ y : Tk.Ht, W.cell? (a.add (i * 3)) = some (.int .i64 y.1) ∧ W.cell? ((a.add (i * 3)).add 1) = some (.int .u64 y.2.1) ∧ W.cell? ((a.add (i * 3)).add 2) = some (.int .u64 y.2.2) := by
      intro i hi
      obtain ⟨cs, hc, ht⟩ := hx i (by omega)
      obtain ⟨z0, z1, k, hz, hl1, j0, j1⟩ := trod_struct2 Tryz.underlying43 ht
      rw [Tryz.cells43] at hl1 hc
      match cs, hl1 with
      | [c0, c1, c2], _ =>
        obtain ⟨x0, e0, _⟩ := DataW.trod_int Tryz.underlying3 j0
        obtain ⟨y0, y1, k2, _, hl2, i0, i1⟩ := trod_struct2 Tryz.underlying41 j1
        obtain ⟨x1, e1, _⟩ := DataW.trod_int Tryz.underlying39 i0
        obtain ⟨x2, e2, _⟩ := DataW.trod_int Tryz.underlying39 i1
        simp [Tryz.cells3, Tryz.cells41, Tryz.cells39] at e0 e1 e2
        subst e0 e1 e2
        obtain ⟨_, _, hcc⟩ := World.cells?_some hc
        have q0 := hcc 0 (by omega)
        have q1 := hcc 1 (by omega)
        have q2 := hcc 2 (by omega)
        exact ⟨(x0, x1, x2), by simpa [Addr.add] using q0, by simpa using q1, by simpa using q2⟩
    obtain ⟨Y, hY⟩ := choose_lt (α := Tk.Ht) (p := fun i y => W.cell? (a.add (i * 3)) = some (.int .i64 y.1) ∧ W.cell? ((a.add (i * 3)).add 1) = some (.int .u64 y.2.1) ∧ W.cell? ((a.add (i * 3)).add 2) = some (.int .u64 y.2.2)) hy
    by_cases hl0 : len = 0
    · subst hl0
      exact ⟨_, [], e, .inr (.inl ⟨a, m, rfl, rfl⟩), Nat.zero_le _⟩
    have ha : a = ⟨a.block, a.off, none⟩ := spot_none (by simpa [Addr.add] using (hY 0 (by omega)).1)
    refine ⟨_, (List.range len).map Y, e, .inr (.inr ⟨a.block, a.off, m, by simp [← ha], fun i hi => ?_⟩), by simp; omega⟩
    have hi' : i < len := by simpa using hi
    have hg : ((List.range len).map Y)[i]! = Y i := by rw [getElem!_pos _ i hi]; simp
    obtain ⟨q0, q1, q2⟩ := hY i hi'
    rw [ha, Addr.add_lit] at q0
    rw [ha, Addr.add_lit, Addr.add_lit] at q1 q2
    rw [hg]
    exact ⟨q0, q1, q2⟩
/-- A region of whatever form, within the reach. -/
def RegIn (r : Reg) : Prop := r.R < 340282366920938463463374607431768211456 ∧ r.L.length ≤ reachBytes ∧ r.H.length ≤ reachBytes ∧ r.I.length ≤ reachBytes ∧ ∀ i, i < r.I.length → KWf r.I[i]!
set_option maxRecDepth 100000 in
theorem trod_regs {H : Type} {enc : TypeId × Value → H} {W : World} {base fuel : Nat} {cs : List Value} {x : DataW H × List MemPlace}
    (h : DataW.trod enc Tryz.prog W base (fun _ => true) true fuel 25 cs = some x) (hw : ∀ n ∈ x.1.weights Tryz.prog 25, n ≤ reachBytes) :
    ∃ v l, cs = [v] ∧ RdL W v l ∧ l.length ≤ reachBytes ∧ ∀ r ∈ l, RegIn r := by
  rcases open_slice Tryz.underlying25 h with ⟨e, _⟩ | ⟨a, len, cap, m, n, D, Pl, e, _, hlc, hcm, hm, hD, hx⟩
  · exact ⟨.slice none 0 0, [], e, rdl_nil _, Nat.zero_le _, by simp⟩
  · rw [if_pos rfl] at hm
    subst hm
    have hd : x.1 = .slice ((List.range len).map D) ((List.range (m - len)).map fun j => D (len + j)) := congrArg Prod.fst hD
    rw [hd] at hw
    have hw0 := hw ((((List.range len).map D).length + ((List.range (m - len)).map fun j => D (len + j)).length) * Tryz.prog.bytesOf 48) (by simp [DataW.weights, Tryz.underlying25])
    rw [Tryz.bytesG] at hw0
    simp only [List.length_map, List.length_range] at hw0
    have hy : ∀ i, i < len → ∃ y : Reg, (∃ vl vh vi, W.cell? (a.add (i * 6)) = some (.int .i64 y.S) ∧ W.cell? ((a.add (i * 6)).add 1) = some vl ∧ W.cell? ((a.add (i * 6)).add 2) = some vh ∧ W.cell? ((a.add (i * 6)).add 3) = some (.int .u64 (hi y.R)) ∧ W.cell? ((a.add (i * 6)).add 4) = some (.int .u64 (lo y.R)) ∧ W.cell? ((a.add (i * 6)).add 5) = some vi ∧ RdI W vl y.L ∧ RdI W vh y.H ∧ RdI W vi y.I) ∧ RegIn y := by
      intro i hi'
      obtain ⟨cs, hc, ht⟩ := hx i (by omega)
      obtain ⟨y0, y1, y2, y3, y4, n, hz, hl, k0, k1, k2, k3, k4⟩ := trod_five Tryz.underlying48 ht
      rw [Tryz.cells48] at hl hc
      have hwD : ∀ n ∈ (D i).weights Tryz.prog 48, n ≤ reachBytes := fun n hn => hw n (by
        simp only [DataW.weights, Tryz.underlying25, List.mem_cons, List.mem_append]
        exact .inr (.inl (weights_in (d := D i) (List.mem_map.2 ⟨i, List.mem_range.2 hi', rfl⟩) n hn)))
      have hz' : D i = .agg [y0.1, y1.1, y2.1, y3.1, y4.1] := hz
      rw [hz'] at hwD
      simp only [DataW.weights, Tryz.underlying48, List.map_cons, List.map_nil, DataW.weightsEach, List.mem_append] at hwD
      match cs, hl with
      | [c0, c1, c2, c3, c4, c5], _ =>
        obtain ⟨z0, z1, m, _, hl1, j0, j1⟩ := trod_struct2 Tryz.underlying41 k3
        obtain ⟨S, e0, _⟩ := DataW.trod_int Tryz.underlying44 k0
        obtain ⟨vl, L, e1, rl, _⟩ := trod22 k1
        obtain ⟨vh, Hh, e2, rh, _⟩ := trod22 k2
        obtain ⟨vi, I, e4, ri, _⟩ := trod22 k4
        obtain ⟨a', e5, _, wa⟩ := DataW.trod_int Tryz.underlying39 j0
        obtain ⟨b', e6, _, wb⟩ := DataW.trod_int Tryz.underlying39 j1
        have k1' := k1
        have k2' := k2
        have k4' := k4
        rw [e1] at k1'
        rw [e2] at k2'
        rw [e4] at k4'
        simp [Tryz.cells44, Tryz.cells23, Tryz.cells41, Tryz.cells39] at e0 e1 e2 e4 e5 e6
        subst e0 e1 e2 e4 e5 e6
        obtain ⟨a0, a1⟩ := word_of_wf wa
        obtain ⟨l0, l1⟩ := word_of_wf wb
        obtain ⟨q1, q2⟩ := hi_lo a' b' a0 l0 l1
        obtain ⟨_, _, hcc⟩ := World.cells?_some hc
        have t0 := hcc 0 (by omega)
        have t1 := hcc 1 (by omega)
        have t2 := hcc 2 (by omega)
        have t3 := hcc 3 (by omega)
        have t4 := hcc 4 (by omega)
        have t5 := hcc 5 (by omega)
        refine ⟨⟨S, L, Hh, (a' * 18446744073709551616 + b').toNat, I⟩, ⟨_, _, _, by simpa [Addr.add] using t0, by simpa using t1, by simpa using t2, by rw [q1]; simpa using t3, by rw [q2]; simpa using t4, by simpa using t5, rl, rh, ri⟩, wd_lt a' b' a1 l1, ?_, ?_, ?_, trodI_wf k4' ri⟩
        · exact trodI_sz k1' rl (fun n hn => hwD n (.inr (.inl hn)))
        · exact trodI_sz k2' rh (fun n hn => hwD n (.inr (.inr (.inl hn))))
        · exact trodI_sz k4' ri (fun n hn => hwD n (.inr (.inr (.inr (.inr (.inl hn))))))
    haveI : Inhabited Reg := ⟨⟨0, [], [], 0, []⟩⟩
    obtain ⟨Y, hY⟩ := choose_lt (α := Reg) hy
    refine ⟨_, (List.range len).map Y, e, ⟨some a, m, by simp, fun i hi' => ?_⟩, by simp; omega, fun r hr => ?_⟩
    · have hi2 : i < len := by simpa using hi'
      obtain ⟨⟨_, _, _, q0, _⟩, _⟩ := hY 0 (by omega)
      have ha : a = ⟨a.block, a.off, none⟩ := spot_none (by simpa [Addr.add] using q0)
      obtain ⟨⟨vl, vh, vi, t0, t1, t2, t3, t4, t5, rl, rh, ri⟩, _⟩ := hY i hi2
      have hg : ((List.range len).map Y)[i] = Y i := by simp
      rw [hg]
      rw [ha, Addr.add_lit] at t0
      rw [ha, Addr.add_lit, Addr.add_lit] at t1 t2 t3 t4 t5
      exact ⟨a.block, a.off, vl, vh, vi, by rw [← ha], t0, t1, t2, t3, t4, t5, rl, rh, ri⟩
    · obtain ⟨i, hi', rfl⟩ := List.mem_map.1 hr
      exact (hY i (List.mem_range.1 hi')).2
set_option maxRecDepth 100000 in
theorem open_ints_sz {H : Type} {enc : TypeId × Value → H} {W : World} {b0 : Nat} {r : Reach} {v : Value} {d : DataW H} {p : List MemPlace}
    (hv' : Value.okWide Tryz.prog W r b0 23 v) (h : DataW.Trod enc Tryz.prog W 0 (fun _ => true) true 23 v d p) (hw : ∀ n ∈ d.weights Tryz.prog 23, n ≤ reachBytes) : ∃ l, RdI W v l ∧ l.length ≤ reachBytes := by
  obtain ⟨a0, len, cap, rfl⟩ := okWide_slice Tryz.underlying23 hv'
  obtain ⟨fuel, hf⟩ := h
  obtain ⟨v, l, e, hr, _⟩ := trod22 (by simpa [Value.cells] using hf)
  cases e
  exact ⟨l, hr, trodI_sz (by simpa [Value.cells] using hf) hr hw⟩
/-- An answer within the reach. -/
structure AnsIn (a : Ans) : Prop where
  hits : a.hits.length ≤ reachBytes
  seen : a.seen.length ≤ reachBytes
  rest : a.rest.length ≤ reachBytes
  reg : ∀ r ∈ a.rest, RegIn r
  kw : ∀ i, i < a.seen.length → KWf a.seen[i]!
set_option maxRecDepth 100000 in
/-- An answer that came in. -/
theorem open_ans {H : Type} {enc : TypeId × Value → H} {W : World} {b0 : Nat} {r : Reach} {v : Value} {d : DataW H} {p : List MemPlace}
    (hv' : Value.okWide Tryz.prog W r b0 27 v) (h : DataW.Trod enc Tryz.prog W 0 (fun _ => true) true 27 v d p) (hw : ∀ n ∈ d.weights Tryz.prog 27, n ≤ reachBytes) :
    ∃ vh vs vr a, v = .agg #[vh, vs, vr] ∧ RdA W vh vs vr a ∧ AnsIn a := by
  obtain ⟨cs, rfl, hsz⟩ := okWide_struct Tryz.underlying27 hv'
  obtain ⟨fuel, hf⟩ := h
  obtain ⟨l⟩ := cs
  simp only [Value.cells] at hf
  obtain ⟨y0, y1, y2, n, hz, hl, k0, k1, k2⟩ := trod_struct3 Tryz.underlying27 hf
  rw [Tryz.cells27] at hl
  have hz' : d = .agg [y0.1, y1.1, y2.1] := hz
  rw [hz'] at hw
  simp only [DataW.weights, Tryz.underlying27, List.map_cons, List.map_nil, DataW.weightsEach, List.mem_append] at hw
  match l, hl with
  | [c0, c1, c2], _ =>
    obtain ⟨vh, hs, e0, r0, l0⟩ := trod_hits k0 (fun n hn => hw n (.inl hn))
    obtain ⟨vs, ss, e1, r1, _⟩ := trod22 k1
    have k1' := k1
    rw [e1] at k1'
    have l1 := trodI_sz k1' r1 (fun n hn => hw n (.inr (.inl hn)))
    have w1 := trodI_wf k1' r1
    obtain ⟨vr, rr, e2, r2, l2, q2⟩ := trod_regs k2 (fun n hn => hw n (.inr (.inr (.inl hn))))
    simp [Tryz.cells24, Tryz.cells23, Tryz.cells25] at e0 e1 e2
    subst e0 e1 e2
    exact ⟨_, _, _, ⟨hs, ss, rr⟩, rfl, ⟨r0, r1, r2⟩, ⟨l0, l1, l2, q2, w1⟩⟩
end Go.Proofs.YtdmdjmliggjbjaaGreat

/- The law's big. -/
namespace Go.Proofs.YtdmdjmliggjbjaaGreat
open Go.RowKit Go.Sort

/-- How many numbers the first p regions have. -/
def cntR (l : List Reg) (p : Nat) : Nat := ((l.take p).map fun r => r.L.length + r.H.length + r.I.length).sum
theorem cntR_succ {l : List Reg} {p : Nat} (h : p < l.length) : cntR l (p + 1) = cntR l p + (l[p].L.length + l[p].H.length + l[p].I.length) := by
  unfold cntR
  rw [List.take_succ_eq_append_getElem h, List.map_append, List.sum_append]
  simp
theorem cnt_ids : ∀ l : List Reg, (l.flatMap (·.I)).length ≤ cntR l l.length
  | [] => by simp [cntR]
  | r :: l => by
    have := cnt_ids l
    unfold cntR at this ⊢
    rw [List.take_length] at this ⊢
    rw [List.flatMap_cons, List.length_append, List.map_cons, List.sum_cons]
    omega
/-- What is not big. -/
structure Small (rs : List Rw) (q : List Int) (a : Ans) : Prop where
  rows : rs.length ≤ 2000
  ask : q.length ≤ 16384
  hits : a.hits.length ≤ 16384
  rest : a.rest.length ≤ 16384
  ids : (allIds a).length ≤ 16384
  vec : ∀ r ∈ a.rest, r.L.length ≤ 16384 ∧ r.H.length ≤ 16384
theorem cntR_mem {l : List Reg} {r : Reg} (h : r ∈ l) : r.L.length + r.H.length + r.I.length ≤ cntR l l.length := by
  unfold cntR
  rw [List.take_length]
  induction l with
  | nil => cases h
  | cons x t ih =>
    rw [List.map_cons, List.sum_cons]
    rcases List.mem_cons.1 h with rfl | h
    · omega
    · have := ih h; omega
theorem Small.inA {rs : List Rw} {q : List Int} {a : Ans} (h : Small rs q a) (k : AnsIn a) : InA a := by
  refine ⟨by have := h.ids; omega, by have := h.rest; omega, by have := h.hits; omega, fun x hx => ?_, fun r hr => (k.reg r hr).1⟩
  rcases List.mem_append.1 hx with hx | hx
  · obtain ⟨i, hi', e⟩ := List.mem_iff_getElem.1 hx
    have := k.kw i hi'
    rw [getElem!_pos a.seen i hi', e] at this
    exact this
  · obtain ⟨r, hr, hx⟩ := List.mem_flatMap.1 hx
    obtain ⟨i, hi', e⟩ := List.mem_iff_getElem.1 hx
    have := (k.reg r hr).2.2.2.2 i hi'
    rw [getElem!_pos r.I i hi', e] at this
    exact this
def BigOut (w : World) (rs : List Rw) (q : List Int) (a : Ans) (e : Ending) (w' : World) : Prop := (∃ b : Bool, e = .returned (.bool b) ∧ (b = false → Small rs q a)) ∧ Gb w w'
theorem reach_is : reachBytes ≤ 140737488355328 := by decide
theorem wrapS {n : Nat} (h : n < 9223372036854775808) : IntKind.i64.wrap (n : Int) = (n : Int) := by
  unfold IntKind.wrap IntKind.signed IntKind.bits
  simp
  omega
set_option maxRecDepth 100000 in
set_option maxHeartbeats 2000000 in
theorem big_c {w : World} {v u vh vs vr : Value} {rs : List Rw} {q : List Int} {a : Ans} (hv : RdW w v rs) (hu : RdI w u q) (ha : RdA w vh vs vr a) (hlen : rs.length ≤ 9223372036854775807) (hq : q.length ≤ reachBytes) (hin : AnsIn a) :
    Calls Tryz.prog 7 #[v, u, .agg #[vh, vs, vr]] w fun e w' => BigOut w rs q a e w' := by
  have V : Hid (RdW w v rs) := hv
  have A : Hid (RdA w vh vs vr a) := ha
  have HI : Hid (AnsIn a) := hin
  have VL : Hid (rs.length ≤ 9223372036854775807) := hlen
  obtain ⟨W0, hW0⟩ : ∃ W0, W0 = w.alloc (.cells #[vh, vs, vr] 27) := ⟨_, rfl⟩
  have G0 : Hid (Gb w W0) := by unfold Hid; rw [hW0]; exact gb_alloc (Below.refl _ _) _
  obtain ⟨x1, y1, rfl, z1⟩ := hv
  obtain ⟨x2, y2, rfl, z2⟩ := hu
  obtain ⟨x3, y3, evh, z3⟩ := ha.hits.form
  obtain ⟨x4, y4, evs, z4⟩ := ha.seen
  obtain ⟨x5, y5, evr, z5⟩ := ha.rest
  subst evh; subst evs; subst evr
  obtain ⟨n1, hn1⟩ : ∃ n, n = rs.length := ⟨_, rfl⟩
  obtain ⟨n2, hn2⟩ : ∃ n, n = q.length := ⟨_, rfl⟩
  obtain ⟨n3, hn3⟩ : ∃ n, n = a.hits.length := ⟨_, rfl⟩
  obtain ⟨n4, hn4⟩ : ∃ n, n = a.seen.length := ⟨_, rfl⟩
  obtain ⟨n5, hn5⟩ : ∃ n, n = a.rest.length := ⟨_, rfl⟩
  have NN : Hid (n1 = rs.length ∧ n2 = q.length ∧ n3 = a.hits.length ∧ n4 = a.seen.length ∧ n5 = a.rest.length) := ⟨hn1, hn2, hn3, hn4, hn5⟩
  have hr := reach_is
  have b2 : n2 ≤ 140737488355328 := by omega
  have b3 : n3 ≤ 140737488355328 := by have := hin.hits; omega
  have b4 : n4 ≤ 140737488355328 := by have := hin.seen; omega
  have b5 : n5 ≤ 140737488355328 := by have := hin.rest; omega
  rw [← hn1] at V ⊢
  rw [← hn2] at ⊢
  rw [← hn3, ← hn4, ← hn5] at A hW0 ⊢
  have BX : Hid (W0.cell? ⟨w.heap.size, 2, none⟩ = some (.slice x5 n5 y5)) := by unfold Hid; rw [hW0]; simp [go_sem]
  have FIN : Hid (n2 + n3 + n4 + n5 + cntR a.rest a.rest.length ≤ 16384 → n1 ≤ 2000 → Small rs q a) := fun h h1 => by
    obtain ⟨e1, e2, e3, e4, e5⟩ := NN.out
    have := cnt_ids a.rest
    exact ⟨by omega, by omega, by omega, by omega, by unfold allIds; rw [List.length_append]; omega, fun r hr => by have := cntR_mem hr; exact ⟨by omega, by omega⟩⟩
  clear z1 z2 z3 z4 z5 ha hin hlen hq hr hn1 hn2 hn3 hn4 hn5
  go_enter Tryz.func7, Tryz.ntmps7
  go_wp2
  rw [← hW0]
  clear hW0
  obtain ⟨B, hB⟩ : ∃ B : Nat, B = n2 + n3 + n4 + n5 := ⟨_, rfl⟩
  have hBi : (n2 : Int) + (n3 : Int) + (n4 : Int) + (n5 : Int) = (B : Int) := by omega
  have HB : Hid (B = n2 + n3 + n4 + n5) := hB
  have hBb : B ≤ 562949953421312 := by omega
  rw [hBi]
  clear hB hBi
  go_loopw [7, 8] (fun nv iv W => ∃ (p z : Nat), nv = .int .i64 (z : Int) ∧ iv = .int .i64 (p : Int) ∧ p ≤ n5 ∧ z ≤ 562949953421312 ∧ Hid (Gb W0 W ∧ z = B + cntR a.rest p)) (fun _ iv _ => n5 - (intOf iv).toNat)
  case atStart => exact ⟨0, B, rfl, rfl, Nat.zero_le _, hBb, Below.refl _ _, by simp [cntR]⟩
  case round =>
    obtain ⟨p, z, rfl, rfl, hp, hzb, X⟩ := hrel
    have x2' := gb_keeps X.out.1 BX.out
    have GX : Hid (Gb w wr) := gb_trans G0.out X.out.1
    by_cases hpn : p < n5
    · have hpi : (p : Int) < (n5 : Int) := by omega
      have hpd : decide ((p : Int) < (n5 : Int)) = true := decide_eq_true hpi
      by_cases hz : z ≤ 16384
      · have hzi : (z : Int) ≤ 16384 := by omega
        have hpl : p < a.rest.length := by have := NN.out; omega
        obtain ⟨_, _, ea, hA⟩ := A.out.rest
        obtain ⟨b1, o1, v1, v2, v3, e1, c0, c1, c2, c3, c4, c5, r1, r2, r3⟩ := hA p hpl
        injection ea with ea1 ea2 ea3
        subst ea1; subst e1
        have hreg := HI.out.reg _ (List.getElem_mem hpl)
        have hr := reach_is
        have CS := cntR_succ hpl
        obtain ⟨u1, w1, e, zz1⟩ := r1; subst e
        obtain ⟨u2, w2, e, zz2⟩ := r2; subst e
        obtain ⟨u3, w3, e, zz3⟩ := r3; subst e
        have c1 := gb_keeps GX.out c1
        have c2 := gb_keeps GX.out c2
        have c5 := gb_keeps GX.out c5
        have d1b : a.rest[p].L.length ≤ 140737488355328 := by have := hreg.2.1; omega
        have d2b : a.rest[p].H.length ≤ 140737488355328 := by have := hreg.2.2.1; omega
        have d3b : a.rest[p].I.length ≤ 140737488355328 := by have := hreg.2.2.2.1; omega
        generalize a.rest[p].L.length = d1 at *
        generalize a.rest[p].H.length = d2 at *
        generalize a.rest[p].I.length = d3 at *
        obtain ⟨s1, hs1⟩ : ∃ s : Nat, s = z + d1 := ⟨_, rfl⟩
        obtain ⟨s2, hs2⟩ : ∃ s : Nat, s = s1 + d2 := ⟨_, rfl⟩
        obtain ⟨s3, hs3⟩ : ∃ s : Nat, s = s2 + d3 := ⟨_, rfl⟩
        have k1 : (z : Int) + (d1 : Int) = (s1 : Int) := by omega
        have k2 : (s1 : Int) + (d2 : Int) = (s2 : Int) := by omega
        have k3 : (s2 : Int) + (d3 : Int) = (s3 : Int) := by omega
        have m1 : IntKind.i64.wrap (s1 : Int) = (s1 : Int) := wrapS (by omega)
        have m2 : IntKind.i64.wrap (s2 : Int) = (s2 : Int) := wrapS (by omega)
        have m3 : IntKind.i64.wrap (s3 : Int) = (s3 : Int) := wrapS (by omega)
        have XN : Hid (∀ W, Gb wr W → s3 ≤ 562949953421312 ∧ Gb W0 W ∧ s3 = B + cntR a.rest (p + 1)) := fun W g => ⟨by omega, gb_trans X.out.1 g, by rw [CS]; have := X.out.2; omega⟩
        clear hs1 hs2 hs3 CS hreg hr zz1 zz2 zz3 c0 c3 c4 hA ea2 ea3 hpl X d1b d2b d3b hz
        go_wp2_with fail
        go_quiet (fail)
        have XX : Hid _ := XN.out _ (below_drewN (Below.refl _ _) nq)
        clear XN c1 c2 c5 x2' k1 k2 k3 m1 m2 m3
        go_wp2
        go_roundw
        case rel => exact ⟨p + 1, s3, rfl, by first | rfl | go_num, hpn, XX.out.1, XX.out.2⟩
        case measure => simp [intOf]; omega
      · have hzi : ¬ (z : Int) ≤ 16384 := by omega
        have hzj : (16384 : Int) < (z : Int) := by omega
        clear X
        go_wp2
        go_ret
        exact ⟨⟨true, rfl, fun h => (by cases h)⟩, GX.out⟩
    · have hpi : ¬ (p : Int) < (n5 : Int) := by omega
      have hpd : decide ((p : Int) < (n5 : Int)) = false := decide_eq_false hpi
      have ZF : Hid (z = B + cntR a.rest a.rest.length) := by
        have h1 := X.out.2
        rw [show p = a.rest.length by have := NN.out; omega] at h1
        exact h1
      clear X
      by_cases hz : z ≤ 16384
      · have hzj : ¬ (16384 : Int) < (z : Int) := by omega
        by_cases h1 : n1 ≤ 2000
        · have h1i : ¬ (2000 : Int) < (n1 : Int) := by omega
          have SM : Hid (Small rs q a) := FIN.out (by have := ZF.out; have := HB.out; omega) h1
          have cv := vects_c (V.out.gb GX.out) 16384 VL.out
          clear ZF h1 hz
          go_wp2_with fail
          go_fit cv
          rintro e w5 ⟨⟨y, rfl⟩, e5⟩
          subst e5
          clear cv
          by_cases hy : 16384 < y
          · go_wp2
            go_ret
            exact ⟨⟨true, rfl, fun h => (by cases h)⟩, GX.out⟩
          · go_wp2
            go_ret
            exact ⟨⟨_, rfl, fun _ => SM.out⟩, GX.out⟩
        · have h1i : (2000 : Int) < (n1 : Int) := by omega
          clear ZF
          go_wp2
          go_ret
          exact ⟨⟨true, rfl, fun h => (by cases h)⟩, GX.out⟩
      · have hzj : (16384 : Int) < (z : Int) := by omega
        clear ZF
        go_wp2
        go_ret
        exact ⟨⟨true, rfl, fun h => (by cases h)⟩, GX.out⟩
end Go.Proofs.YtdmdjmliggjbjaaGreat
