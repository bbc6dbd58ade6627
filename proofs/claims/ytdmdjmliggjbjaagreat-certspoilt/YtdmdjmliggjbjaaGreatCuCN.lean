/- An answer that came in, opened: its lists have no room where they have no memory. -/
import Derived.Test.YtdmdjmliggjbjaaGreatCt41
namespace Go.Proofs.YtdmdjmliggjbjaaGreat
open Go.ChangeShapes Go.WideShapes Go.ChangeAt Go.RowKit Go.Joins Go.Deep

/-- A slice without memory has no room. -/
def NilOk (v : Value) : Prop := ∀ n c, v = .slice none n c → n = 0 ∧ c = 0
theorem nilOk_none : NilOk (.slice none 0 0) := fun n c e => by injection e with _ e1 e2; exact ⟨e1.symm, e2.symm⟩
theorem nilOk_some (a : Addr) (n c : Nat) : NilOk (.slice (some a) n c) := fun m d e => by injection e with e _ _; cases e
theorem trodI_nil {H : Type} {enc : TypeId × Value → H} {W : World} {base fuel : Nat} {hd : Bool} {v : Value} {x : DataW H × List MemPlace}
    (h : DataW.trod enc Tryz.prog W base (fun _ => true) hd fuel 23 [v] = some x) : NilOk v := by
  rcases open_slice1 Tryz.underlying23 Tryz.cells3 h with ⟨e, _⟩ | ⟨a, len, cap, m, n, V, D, Pl, e, _⟩
  · injection e with e
    rw [e]; exact nilOk_none
  · injection e with e
    rw [e]; exact nilOk_some _ _ _
/-- A slice that reads as these regions, lists without memory having no room. -/
def RdLN (w : World) (v : Value) (l : List Reg) : Prop := ∃ a cap, v = .slice a l.length cap ∧ (a = none → cap = 0) ∧ ∀ i (hi' : i < l.length), ∃ b o vl vh vi, a = some ⟨b, o, none⟩ ∧
  w.cell? ⟨b, o + i * 6, none⟩ = some (.int .i64 l[i].S) ∧ w.cell? ⟨b, o + i * 6 + 1, none⟩ = some vl ∧ w.cell? ⟨b, o + i * 6 + 2, none⟩ = some vh ∧ w.cell? ⟨b, o + i * 6 + 3, none⟩ = some (.int .u64 (hi l[i].R)) ∧
  w.cell? ⟨b, o + i * 6 + 4, none⟩ = some (.int .u64 (lo l[i].R)) ∧ w.cell? ⟨b, o + i * 6 + 5, none⟩ = some vi ∧ RdI w vl l[i].L ∧ RdI w vh l[i].H ∧ RdI w vi l[i].I ∧ NilOk vl ∧ NilOk vh ∧ NilOk vi
theorem rdln_nil (w : World) : RdLN w (.slice none 0 0) [] := ⟨none, 0, rfl, fun _ => rfl, fun _ hi' => absurd hi' (Nat.not_lt_zero _)⟩
theorem RdLN.gb {w w' : World} {v : Value} {l : List Reg} (h : RdLN w v l) (g : Gb w w') : RdLN w' v l := by
  obtain ⟨a, cap, e, h0, h⟩ := h
  refine ⟨a, cap, e, h0, fun i hi' => ?_⟩
  obtain ⟨b, o, vl, vh, vi, e0, c0, c1, c2, c3, c4, c5, r1, r2, r3, n⟩ := h i hi'
  exact ⟨b, o, vl, vh, vi, e0, gb_keeps g c0, gb_keeps g c1, gb_keeps g c2, gb_keeps g c3, gb_keeps g c4, gb_keeps g c5, r1.gb g, r2.gb g, r3.gb g, n⟩
theorem RdLN.rd {w : World} {v : Value} {l : List Reg} (h : RdLN w v l) : RdL w v l := by
  obtain ⟨a, cap, e, h0, h⟩ := h
  refine ⟨a, cap, e, fun i hi' => ?_⟩
  obtain ⟨b, o, vl, vh, vi, e0, c0, c1, c2, c3, c4, c5, r1, r2, r3, n⟩ := h i hi'
  exact ⟨b, o, vl, vh, vi, e0, c0, c1, c2, c3, c4, c5, r1, r2, r3⟩
structure RdAN (w : World) (vh vs vr : Value) (a : Ans) : Prop where
  hits : Tk.Rd w vh a.hits
  hn : NilOk vh
  seen : RdI w vs a.seen
  sn : NilOk vs
  rest : RdLN w vr a.rest
theorem RdAN.gb {w w' : World} {vh vs vr : Value} {a : Ans} (h : RdAN w vh vs vr a) (g : Gb w w') : RdAN w' vh vs vr a := ⟨h.hits.gr g, h.hn, h.seen.gb g, h.sn, h.rest.gb g⟩
theorem RdAN.rd {w : World} {vh vs vr : Value} {a : Ans} (h : RdAN w vh vs vr a) : RdA w vh vs vr a := ⟨h.hits, h.seen, h.rest.rd⟩
set_option maxRecDepth 100000 in
theorem trod_hitsN {H : Type} {enc : TypeId × Value → H} {W : World} {base fuel : Nat} {cs : List Value} {x : DataW H × List MemPlace}
    (h : DataW.trod enc Tryz.prog W base (fun _ => true) true fuel 24 cs = some x) (hw : ∀ n ∈ x.1.weights Tryz.prog 24, n ≤ reachBytes) :
    ∃ v l, cs = [v] ∧ Tk.Rd W v l ∧ l.length ≤ reachBytes ∧ NilOk v := by
  rcases open_slice Tryz.underlying24 h with ⟨e, _⟩ | ⟨a, len, cap, m, n, D, Pl, e, _, hlc, hcm, hm, hD, hx⟩
  · exact ⟨.slice none 0 0, [], e, .inl ⟨rfl, rfl⟩, Nat.zero_le _, nilOk_none⟩
  · rw [if_pos rfl] at hm
    subst hm
    have hd : x.1 = .slice ((List.range len).map D) ((List.range (m - len)).map fun j => D (len + j)) := congrArg Prod.fst hD
    rw [hd] at hw
    have hw0 := hw ((((List.range len).map D).length + ((List.range (m - len)).map fun j => D (len + j)).length) * Tryz.prog.bytesOf 43) (by simp [DataW.weights, Tryz.underlying24])
    rw [Tryz.bytesH] at hw0
    simp only [List.length_map, List.length_range] at hw0
    have hy : ∀ i, i < len → ∃ y : Tk.Ht, W.cell? (a.add (i * 3)) = some (.int .i64 y.1) ∧ W.cell? ((a.add (i * 3)).add 1) = some (.int .u64 y.2.1) ∧ W.cell? ((a.add (i * 3)).add 2) = some (.int .u64 y.2.2) := by
      intro i hi
      obtain ⟨cs, hc, ht⟩ := hx i (by omega)
      obtain ⟨z0, z1, k, hz, hl1, j0, j1⟩ := trod_struct2 Tryz.underlying43 ht
      rw [Tryz.cells43] at hl1 hc
      match cs, hl1 with
      | [c0, c1, c2], _ =>
        obtain ⟨x0, e0, _⟩ := DataW.trod_int Tryz.underlying3 j0
        obtain ⟨y0, y1, k2, _, hl2, i0, i1⟩ := trod_struct2 Tryz.underlying41 j1
        obtain ⟨x1, e1, _⟩ := DataW.trod_int Tryz.underlying39 i0
        obtain ⟨x2, e2, _⟩ := DataW.trod_int Tryz.underlying39 i1
        simp [Tryz.cells3, Tryz.cells41, Tryz.cells39] at e0 e1 e2
        subst e0 e1 e2
        obtain ⟨_, _, hcc⟩ := World.cells?_some hc
        have q0 := hcc 0 (by omega)
        have q1 := hcc 1 (by omega)
        have q2 := hcc 2 (by omega)
        exact ⟨(x0, x1, x2), by simpa [Addr.add] using q0, by simpa using q1, by simpa using q2⟩
    obtain ⟨Y, hY⟩ := choose_lt (α := Tk.Ht) (p := fun i y => W.cell? (a.add (i * 3)) = some (.int .i64 y.1) ∧ W.cell? ((a.add (i * 3)).add 1) = some (.int .u64 y.2.1) ∧ W.cell? ((a.add (i * 3)).add 2) = some (.int .u64 y.2.2)) hy
    by_cases hl0 : len = 0
    · subst hl0
      exact ⟨_, [], e, .inr (.inl ⟨a, m, rfl, rfl⟩), Nat.zero_le _, nilOk_some _ _ _⟩
    have ha : a = ⟨a.block, a.off, none⟩ := spot_none (by simpa [Addr.add] using (hY 0 (by omega)).1)
    refine ⟨_, (List.range len).map Y, e, .inr (.inr ⟨a.block, a.off, m, by simp [← ha], fun i hi => ?_⟩), by simp; omega, nilOk_some _ _ _⟩
    have hi' : i < len := by simpa using hi
    have hg : ((List.range len).map Y)[i]! = Y i := by rw [getElem!_pos _ i hi]; simp
    obtain ⟨q0, q1, q2⟩ := hY i hi'
    rw [ha, Addr.add_lit] at q0
    rw [ha, Addr.add_lit, Addr.add_lit] at q1 q2
    rw [hg]
    exact ⟨q0, q1, q2⟩
set_option maxRecDepth 100000 in
theorem trod_regsN {H : Type} {enc : TypeId × Value → H} {W : World} {base fuel : Nat} {cs : List Value} {x : DataW H × List MemPlace}
    (h : DataW.trod enc Tryz.prog W base (fun _ => true) true fuel 25 cs = some x) (hw : ∀ n ∈ x.1.weights Tryz.prog 25, n ≤ reachBytes) :
    ∃ v l, cs = [v] ∧ RdLN W v l ∧ l.length ≤ reachBytes ∧ ∀ r ∈ l, RegIn r := by
  rcases open_slice Tryz.underlying25 h with ⟨e, _⟩ | ⟨a, len, cap, m, n, D, Pl, e, _, hlc, hcm, hm, hD, hx⟩
  · exact ⟨.slice none 0 0, [], e, rdln_nil _, Nat.zero_le _, by simp⟩
  · rw [if_pos rfl] at hm
    subst hm
    have hd : x.1 = .slice ((List.range len).map D) ((List.range (m - len)).map fun j => D (len + j)) := congrArg Prod.fst hD
    rw [hd] at hw
    have hw0 := hw ((((List.range len).map D).length + ((List.range (m - len)).map fun j => D (len + j)).length) * Tryz.prog.bytesOf 48) (by simp [DataW.weights, Tryz.underlying25])
    rw [Tryz.bytesG] at hw0
    simp only [List.length_map, List.length_range] at hw0
    have hy : ∀ i, i < len → ∃ y : Reg, (∃ vl vh vi, W.cell? (a.add (i * 6)) = some (.int .i64 y.S) ∧ W.cell? ((a.add (i * 6)).add 1) = some vl ∧ W.cell? ((a.add (i * 6)).add 2) = some vh ∧ W.cell? ((a.add (i * 6)).add 3) = some (.int .u64 (hi y.R)) ∧ W.cell? ((a.add (i * 6)).add 4) = some (.int .u64 (lo y.R)) ∧ W.cell? ((a.add (i * 6)).add 5) = some vi ∧ RdI W vl y.L ∧ RdI W vh y.H ∧ RdI W vi y.I ∧ NilOk vl ∧ NilOk vh ∧ NilOk vi) ∧ RegIn y := by
      intro i hi'
      obtain ⟨cs, hc, ht⟩ := hx i (by omega)
      obtain ⟨y0, y1, y2, y3, y4, n, hz, hl, k0, k1, k2, k3, k4⟩ := trod_five Tryz.underlying48 ht
      rw [Tryz.cells48] at hl hc
      have hwD : ∀ n ∈ (D i).weights Tryz.prog 48, n ≤ reachBytes := fun n hn => hw n (by
        simp only [DataW.weights, Tryz.underlying25, List.mem_cons, List.mem_append]
        exact .inr (.inl (weights_in (d := D i) (List.mem_map.2 ⟨i, List.mem_range.2 hi', rfl⟩) n hn)))
      have hz' : D i = .agg [y0.1, y1.1, y2.1, y3.1, y4.1] := hz
      rw [hz'] at hwD
      simp only [DataW.weights, Tryz.underlying48, List.map_cons, List.map_nil, DataW.weightsEach, List.mem_append] at hwD
      match cs, hl with
      | [c0, c1, c2, c3, c4, c5], _ =>
        obtain ⟨z0, z1, m, _, hl1, j0, j1⟩ := trod_struct2 Tryz.underlying41 k3
        obtain ⟨S, e0, _⟩ := DataW.trod_int Tryz.underlying44 k0
        obtain ⟨vl, L, e1, rl, _⟩ := trod22 k1
        obtain ⟨vh, Hh, e2, rh, _⟩ := trod22 k2
        obtain ⟨vi, I, e4, ri, _⟩ := trod22 k4
        obtain ⟨a', e5, _, wa⟩ := DataW.trod_int Tryz.underlying39 j0
        obtain ⟨b', e6, _, wb⟩ := DataW.trod_int Tryz.underlying39 j1
        have k1' := k1
        have k2' := k2
        have k4' := k4
        rw [e1] at k1'
        rw [e2] at k2'
        rw [e4] at k4'
        simp [Tryz.cells44, Tryz.cells23, Tryz.cells41, Tryz.cells39] at e0 e1 e2 e4 e5 e6
        subst e0 e1 e2 e4 e5 e6
        obtain ⟨a0, a1⟩ := word_of_wf wa
        obtain ⟨l0, l1⟩ := word_of_wf wb
        obtain ⟨q1, q2⟩ := hi_lo a' b' a0 l0 l1
        obtain ⟨_, _, hcc⟩ := World.cells?_some hc
        have t0 := hcc 0 (by omega)
        have t1 := hcc 1 (by omega)
        have t2 := hcc 2 (by omega)
        have t3 := hcc 3 (by omega)
        have t4 := hcc 4 (by omega)
        have t5 := hcc 5 (by omega)
        refine ⟨⟨S, L, Hh, (a' * 18446744073709551616 + b').toNat, I⟩, ⟨_, _, _, by simpa [Addr.add] using t0, by simpa using t1, by simpa using t2, by rw [q1]; simpa using t3, by rw [q2]; simpa using t4, by simpa using t5, rl, rh, ri, trodI_nil k1', trodI_nil k2', trodI_nil k4'⟩, wd_lt a' b' a1 l1, ?_, ?_, ?_, trodI_wf k4' ri⟩
        · exact trodI_sz k1' rl (fun n hn => hwD n (.inr (.inl hn)))
        · exact trodI_sz k2' rh (fun n hn => hwD n (.inr (.inr (.inl hn))))
        · exact trodI_sz k4' ri (fun n hn => hwD n (.inr (.inr (.inr (.inr (.inl hn))))))
    haveI : Inhabited Reg := ⟨⟨0, [], [], 0, []⟩⟩
    obtain ⟨Y, hY⟩ := choose_lt (α := Reg) hy
    refine ⟨_, (List.range len).map Y, e, ⟨some a, m, by simp, fun e => (by cases e), fun i hi' => ?_⟩, by simp; omega, fun r hr => ?_⟩
    · have hi2 : i < len := by simpa using hi'
      obtain ⟨⟨_, _, _, q0, _⟩, _⟩ := hY 0 (by omega)
      have ha : a = ⟨a.block, a.off, none⟩ := spot_none (by simpa [Addr.add] using q0)
      obtain ⟨⟨vl, vh, vi, t0, t1, t2, t3, t4, t5, rl, rh, ri, ni1, ni2, ni3⟩, _⟩ := hY i hi2
      have hg : ((List.range len).map Y)[i] = Y i := by simp
      rw [hg]
      rw [ha, Addr.add_lit] at t0
      rw [ha, Addr.add_lit, Addr.add_lit] at t1 t2 t3 t4 t5
      exact ⟨a.block, a.off, vl, vh, vi, by rw [← ha], t0, t1, t2, t3, t4, t5, rl, rh, ri, ni1, ni2, ni3⟩
    · obtain ⟨i, hi', rfl⟩ := List.mem_map.1 hr
      exact (hY i (List.mem_range.1 hi')).2
set_option maxRecDepth 100000 in
/-- An answer that came in. -/
theorem open_ansN {H : Type} {enc : TypeId × Value → H} {W : World} {b0 : Nat} {r : Reach} {v : Value} {d : DataW H} {p : List MemPlace}
    (hv' : Value.okWide Tryz.prog W r b0 27 v) (h : DataW.Trod enc Tryz.prog W 0 (fun _ => true) true 27 v d p) (hw : ∀ n ∈ d.weights Tryz.prog 27, n ≤ reachBytes) :
    ∃ vh vs vr a, v = .agg #[vh, vs, vr] ∧ RdAN W vh vs vr a ∧ AnsIn a := by
  obtain ⟨cs, rfl, hsz⟩ := okWide_struct Tryz.underlying27 hv'
  obtain ⟨fuel, hf⟩ := h
  obtain ⟨l⟩ := cs
  simp only [Value.cells] at hf
  obtain ⟨y0, y1, y2, n, hz, hl, k0, k1, k2⟩ := trod_struct3 Tryz.underlying27 hf
  rw [Tryz.cells27] at hl
  have hz' : d = .agg [y0.1, y1.1, y2.1] := hz
  rw [hz'] at hw
  simp only [DataW.weights, Tryz.underlying27, List.map_cons, List.map_nil, DataW.weightsEach, List.mem_append] at hw
  match l, hl with
  | [c0, c1, c2], _ =>
    obtain ⟨vh, hs, e0, r0, l0, n0⟩ := trod_hitsN k0 (fun n hn => hw n (.inl hn))
    obtain ⟨vs, ss, e1, r1, _⟩ := trod22 k1
    have k1' := k1
    rw [e1] at k1'
    have l1 := trodI_sz k1' r1 (fun n hn => hw n (.inr (.inl hn)))
    have w1 := trodI_wf k1' r1
    have n1 := trodI_nil k1'
    obtain ⟨vr, rr, e2, r2, l2, q2⟩ := trod_regsN k2 (fun n hn => hw n (.inr (.inr (.inl hn))))
    simp [Tryz.cells24, Tryz.cells23, Tryz.cells25] at e0 e1 e2
    subst e0 e1 e2
    exact ⟨_, _, _, ⟨hs, ss, rr⟩, rfl, ⟨r0, n0, r1, n1, r2⟩, ⟨l0, l1, l2, q2, w1⟩⟩
end Go.Proofs.YtdmdjmliggjbjaaGreat
