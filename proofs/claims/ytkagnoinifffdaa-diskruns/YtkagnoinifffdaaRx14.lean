import Derived.Test.YtkagnoinifffdaaRxDkLf
import Derived.Test.YtkagnoinifffdaaRx13
/- A script of calls, lists of bytes, that came in. -/
namespace Go.Proofs.Ytkagnoinifffdaa
open Go.ChangeShapes Go.WideShapes Go.ChangeAt Go.RowKit Go.Joins Go.Deep

/-- A call: its kind, its two names, its bytes, its number, its choices. -/
abbrev OpP := Int × By × By × By × Int × List Int
def RdS (w : World) (v : Value) (ops : List OpP) : Prop := ∃ a cap, v = .slice a ops.length cap ∧ ∀ i, i < ops.length → ∃ g o vb vc, a = some ⟨g, o, none⟩ ∧
  (w.cell? ⟨g, o + i * 6, none⟩ = some (.int .i64 ops[i]!.1) ∧ w.cell? ⟨g, o + i * 6 + 1, none⟩ = some (.string (sb ops[i]!.2.1)) ∧ w.cell? ⟨g, o + i * 6 + 2, none⟩ = some (.string (sb ops[i]!.2.2.1)) ∧ w.cell? ⟨g, o + i * 6 + 3, none⟩ = some vb ∧ w.cell? ⟨g, o + i * 6 + 4, none⟩ = some (.int .i64 ops[i]!.2.2.2.2.1) ∧ w.cell? ⟨g, o + i * 6 + 5, none⟩ = some vc) ∧
  RdY w vb ops[i]!.2.2.2.1 ∧ RdI w vc ops[i]!.2.2.2.2.2
def OpR (x : OpP) : Prop := x.2.1.length ≤ maxLen ∧ x.2.2.1.length ≤ maxLen ∧ InR x.2.2.2.2.1 ∧ ∀ c ∈ x.2.2.2.2.2, InR c
theorem RdY.gb {w w' : World} {v : Value} {l : By} (h : RdY w v l) (g : Gb w w') : RdY w' v l := ⟨h.1.gb g, h.2⟩
theorem RdS.gb {w w' : World} {v : Value} {ops : List OpP} (h : RdS w v ops) (g : Gb w w') : RdS w' v ops := by
  obtain ⟨a, cap, e, h⟩ := h
  refine ⟨a, cap, e, fun i hi => ?_⟩
  obtain ⟨b, o, vb, vc, e, ⟨c0, c1, c2, c3, c4, c5⟩, h1, h2⟩ := h i hi
  exact ⟨b, o, vb, vc, e, ⟨gb_keeps g c0, gb_keeps g c1, gb_keeps g c2, gb_keeps g c3, gb_keeps g c4, gb_keeps g c5⟩, h1.gb g, h2.gb g⟩
theorem Try.cellsOp : Try.prog.cellsOf 36 = 6 := by kernel_rfl
theorem trod_struct6 {H : Type} {enc : TypeId × Value → H} {w : World} {base : Nat} {spare : Nat → Bool} {held : Bool} {t : TypeId} {f0 f1 f2 f3 f4 f5 : Field} {fuel : Nat} {cs : List Value} {x : DataW H × List MemPlace} (ht : Try.prog.underlying t = some (.struct #[f0, f1, f2, f3, f4, f5])) (h : DataW.trod enc Try.prog w base spare held fuel t cs = some x) :
    ∃ y0 y1 y2 y3 y4 y5 n, cs.length = Try.prog.cellsOf t ∧ DataW.trod enc Try.prog w base spare held n f0.type ((cs.drop f0.offset).take (Try.prog.cellsOf f0.type)) = some y0 ∧
      DataW.trod enc Try.prog w base spare held n f1.type ((cs.drop f1.offset).take (Try.prog.cellsOf f1.type)) = some y1 ∧ DataW.trod enc Try.prog w base spare held n f2.type ((cs.drop f2.offset).take (Try.prog.cellsOf f2.type)) = some y2 ∧
      DataW.trod enc Try.prog w base spare held n f3.type ((cs.drop f3.offset).take (Try.prog.cellsOf f3.type)) = some y3 ∧ DataW.trod enc Try.prog w base spare held n f4.type ((cs.drop f4.offset).take (Try.prog.cellsOf f4.type)) = some y4 ∧
      DataW.trod enc Try.prog w base spare held n f5.type ((cs.drop f5.offset).take (Try.prog.cellsOf f5.type)) = some y5 := by
  obtain ⟨xs, n, _, rfl, hl, hlen, hf⟩ := DataW.trod_struct ht h
  match xs, hlen with
  | [y0, y1, y2, y3, y4, y5], _ => exact ⟨y0, y1, y2, y3, y4, y5, n, hl, by simpa using hf 0 f0 rfl, by simpa using hf 1 f1 rfl, by simpa using hf 2 f2 rfl, by simpa using hf 3 f3 rfl, by simpa using hf 4 f4 rfl, by simpa using hf 5 f5 rfl⟩
set_option maxRecDepth 100000 in
theorem open_ops {H : Type} {enc : TypeId × Value → H} {W : World} {b0 : Nat} {r : Reach} {v : Value} {d : DataW H} {p : List MemPlace}
    (hv' : Value.okWide Try.prog W r b0 31 v) (h : DataW.Trod enc Try.prog W 0 (fun _ => true) true 31 v d p) : ∃ ops : List OpP, RdS W v ops ∧ ∀ i, i < ops.length → OpR ops[i]! := by
  obtain ⟨a0, len, cap, rfl⟩ := okWide_slice Try.underlying31 hv'
  obtain ⟨fuel, hf⟩ := h
  rcases open_slice Try.underlying31 (by simpa [Value.cells] using hf) with ⟨e, _⟩ | ⟨a, len, cap, m, n, D, Pl, e, _, hlc, hcm, hm, _, hx⟩
  · cases e
    exact ⟨[], ⟨none, 0, rfl, fun i hi => absurd hi (Nat.not_lt_zero _)⟩, fun i hi => absurd hi (Nat.not_lt_zero _)⟩
  · cases e
    rw [if_pos rfl] at hm
    subst hm
    have hy : ∀ i, i < len → ∃ y : OpP, ∃ vb vc, (W.cell? (a.add (i * 6)) = some (.int .i64 y.1) ∧ W.cell? ((a.add (i * 6)).add 1) = some (.string (sb y.2.1)) ∧ W.cell? ((a.add (i * 6)).add 2) = some (.string (sb y.2.2.1)) ∧ W.cell? ((a.add (i * 6)).add 3) = some vb ∧ W.cell? ((a.add (i * 6)).add 4) = some (.int .i64 y.2.2.2.2.1) ∧ W.cell? ((a.add (i * 6)).add 5) = some vc) ∧ RdY W vb y.2.2.2.1 ∧ RdI W vc y.2.2.2.2.2 ∧ OpR y := by
      intro i hi
      obtain ⟨cs, hc, ht⟩ := hx i (by omega)
      obtain ⟨y0, y1, y2, y3, y4, y5, k, hl, k0, k1, k2, k3, k4, k5⟩ := trod_struct6 Try.underlying36 ht
      rw [Try.cellsOp] at hl hc
      match cs, hl with
      | [c0, c1, c2, c3, c4, c5], _ =>
        obtain ⟨a0, e0, _⟩ := DataW.trod_int Try.underlying3 k0
        obtain ⟨s1, e1, _, l1⟩ := DataW.trod_string Try.underlying9 k1
        obtain ⟨s2, e2, _, l2⟩ := DataW.trod_string Try.underlying9 k2
        obtain ⟨vb, bl, e3, hb⟩ := trodB k3
        obtain ⟨a4, e4, _, w4⟩ := DataW.trod_int Try.underlying3 k4
        obtain ⟨vc, cl, e5, hcI, hcR⟩ := trodI k5
        simp [Try.cells3, Try.cells34, Try.cellsStr, Try.cellsBs] at e0 e1 e2 e3 e4 e5
        subst e0 e1 e2 e3 e4 e5
        obtain ⟨_, _, hcc⟩ := World.cells?_some hc
        have q0 := hcc 0 (by omega)
        have q1 := hcc 1 (by omega)
        have q2 := hcc 2 (by omega)
        have q3 := hcc 3 (by omega)
        have q4 := hcc 4 (by omega)
        have q5 := hcc 5 (by omega)
        refine ⟨(a0, s1.data.toList, s2.data.toList, bl, a4, cl), _, _, ⟨by simpa [Addr.add] using q0, by rw [← sb_of]; simpa using q1, by rw [← sb_of]; simpa using q2, by simpa using q3, by simpa using q4, by simpa using q5⟩, hb, hcI, ?_, ?_, inR_of w4, hcR⟩
        · simpa using l1
        · simpa using l2
    obtain ⟨Y, hY⟩ := choose_lt (α := OpP) (p := fun i y => ∃ vb vc, (W.cell? (a.add (i * 6)) = some (.int .i64 y.1) ∧ W.cell? ((a.add (i * 6)).add 1) = some (.string (sb y.2.1)) ∧ W.cell? ((a.add (i * 6)).add 2) = some (.string (sb y.2.2.1)) ∧ W.cell? ((a.add (i * 6)).add 3) = some vb ∧ W.cell? ((a.add (i * 6)).add 4) = some (.int .i64 y.2.2.2.2.1) ∧ W.cell? ((a.add (i * 6)).add 5) = some vc) ∧ RdY W vb y.2.2.2.1 ∧ RdI W vc y.2.2.2.2.2 ∧ OpR y) hy
    have hg : ∀ i, i < len → ((List.range len).map Y)[i]! = Y i := by
      intro i hi
      rw [getElem!_pos _ i (by simpa using hi)]; simp
    refine ⟨(List.range len).map Y, ⟨some a, m, by simp, fun i hi => ?_⟩, fun i hi => by
      have hi' : i < len := by simpa using hi
      obtain ⟨_, _, _, _, _, hk⟩ := hY i hi'
      rw [hg i hi']
      exact hk⟩
    have hi' : i < len := by simpa using hi
    obtain ⟨_, _, ⟨q0, _⟩, _⟩ := hY 0 (by omega)
    have ha : a = ⟨a.block, a.off, none⟩ := spot_none (by simpa [Addr.add] using q0)
    obtain ⟨vb, vc, ⟨c0, c1, c2, c3, c4, c5⟩, h1, h2, _⟩ := hY i hi'
    rw [hg i hi']
    rw [ha, Addr.add_lit] at c0
    rw [ha, Addr.add_lit, Addr.add_lit] at c1 c2 c3 c4 c5
    exact ⟨a.block, a.off, vb, vc, by rw [← ha], ⟨c0, c1, c2, c3, c4, c5⟩, h1, h2⟩
end Go.Proofs.Ytkagnoinifffdaa

/- Clone. -/
namespace Go.Proofs.Ytkagnoinifffdaa
open Go.RowKit Go.Lib Go.Maps

variable {w w' : World} {b : Nat} {q q' : Dq} {F G : Nat → Prop} {ks : List Int} {fm nb sn : Nat} {cv : Value} {fv : Int → Value}
/-- The twin's seven cells. -/
def twB (q : Dq) (m' nb sn : Nat) (cv : Value) : Obj := .cells #[.int .i64 q.room, .map (some m'), .map (some nb), .map (some sn), cv, .int .i64 (q.st : Int), .int .i64 q.lf] 63 (0, 0)
/-- The twin's files under way: the keys lf still to come, dn done. -/
structure ClI (w : World) (q : Dq) (fm nb sn : Nat) (cv : Value) (ks : List Int) (fv : Int → Value) (lf : List Int) (W : World) (gv : Int → Value) (dn : List Int) : Prop where
  rng : RngA Try.prog 3 W fm (w.heap.size + 2) ks lf (fileV fv q.fs)
  map : MapA Try.prog 3 W (w.heap.size + 1) dn (fileV gv q.fs)
  cov : ∀ n ∈ ks, n ∈ lf ∨ n ∈ dn
  sub : ∀ n ∈ dn, n ∈ ks
  own : ∀ n ∈ dn, OwnB W w.heap.size (gv n) (q.fb n)
  dis : ∀ n ∈ dn, ∀ m ∈ dn, n ≠ m → ∀ k, (gv n).ownBlock = some k → (gv m).ownBlock ≠ some k
  blk : W.heap[w.heap.size]? = some (twB q (w.heap.size + 1) nb sn cv)
  gb : Gb w W
def ClJ (w : World) (q : Dq) (fm nb sn : Nat) (cv : Value) (ks : List Int) (fv : Int → Value) (g : Nat) (W : World) : Prop := ∃ lf gv dn, g = lf.length ∧ ClI w q fm nb sn cv ks fv lf W gv dn
def ClOut (w w' : World) (b : Nat) (q : Dq) : Prop := w.heap.size ≤ b ∧ DkAt w' b q (fun k => w.heap.size ≤ k ∧ k < w'.heap.size) ∧ Gb w w'
theorem twB_cell {W : World} {p m' nb sn : Nat} {cv : Value} (h : W.heap[p]? = some (twB q m' nb sn cv)) : W.cell? ⟨p, 1, none⟩ = some (.map (some m')) ∧ W.cell? ⟨p, 2, none⟩ = some (.map (some nb)) ∧ W.cell? ⟨p, 3, none⟩ = some (.map (some sn)) ∧ W.cell? ⟨p, 4, none⟩ = some cv ∧ (∀ i, W.frozen? ⟨p, i, none⟩ = false) ∧ p < W.heap.size := by
  unfold twB at h
  refine ⟨?_, ?_, ?_, ?_, fun i => ?_, (Array.getElem?_eq_some_iff.1 h).1⟩ <;> simp [World.cell?, World.frozen?, h]
/-- A round: the entry at x has come (w1), its variable lies there, its bytes are cloned (w4), it is written. -/
theorem ClI.step {lf dn : List Int} {W w1 : World} {gv : Int → Value} {x : Int} (h : ClI w q fm nb sn cv ks fv lf W gv dn) (hD : DkM w b q F ks fm nb sn cv fv) (ok : q.Ok) (hks : ks.length < 900000) (hx : x ∈ lf) (hr : RngA Try.prog 3 w1 fm (w.heap.size + 2) ks (lf.erase x) (fileV fv q.fs)) (hg : W.grownBy w1 (some (w.heap.size + 2)))
    (o : Obj) (X : World) (gX : Gb (w1.alloc o) X) : Calls Try.prog 39 #[fv x] X fun e w4 => ∃ v', e = .returned v' ∧ w4.cell? ⟨w.heap.size, 1, none⟩ = some (.map (some (w.heap.size + 1))) ∧ w.heap.size < w4.heap.size ∧ Gb (w1.alloc o) w4 ∧ (∃ a c, v' = .slice a (q.fb x).length c) ∧
      ∃ W5, (Instr.mapUpdate 59 (.map (some (w.heap.size + 1))) (.int .i64 x) (.agg #[v', .int .i64 (q.fs x : Int)])).run Try.prog w4 = .ok () W5 ∧ Hid (∃ gv dn, ClI w q fm nb sn cv ks fv (lf.erase x) W5 gv dn) := by
  have hxk : x ∈ ks := h.rng.sub x hx
  have hfm : fm < w.heap.size := hD.fls.lt
  have hmp := h.map.lt
  have hrl := h.rng.lt
  have g1 : Gb w w1 := below_grown' h.gb hg fun k e => by injection e with e; omega
  have gA : Gb w (w1.alloc o) := gb_alloc g1 _
  have gwX := gb_trans gA gX
  have s1 : W.heap.size ≤ w1.heap.size := hg.size
  have sA : w1.heap.size < (w1.alloc o).heap.size := by simp
  -- whatever lay in W but for the range's own block
  have old : ∀ k, k < W.heap.size → k ≠ w.heap.size + 2 → X.heap[k]? = W.heap[k]? := fun k hk e =>
    (gX.block k (by omega)).trans ((Below.heap_alloc _ _ _ (by omega)).trans (hg.block k hk fun e' => e (by cases e'; rfl)))
  have hc := cloneB_c ((hD.own x hxk).gb gwX).cp (ok.fb x)
  refine hc.mono ?_
  rintro e w4 ⟨v', rfl, ho, g4⟩
  have blk4 : w4.heap[w.heap.size]? = some (twB q (w.heap.size + 1) nb sn cv) := (g4.block _ (by have := gX.size; omega)).trans ((old _ (by omega) (by omega)).trans h.blk)
  have m4 : MapA Try.prog 3 w4 (w.heap.size + 1) dn (fileV gv q.fs) := h.map.same ((g4.block _ (by have := gX.size; omega)).trans (old _ hmp (by omega)))
  have hdl : dn.length < 1000000 := Nat.lt_of_le_of_lt (nodup_sub_le h.map.nodup h.sub) (by omega)
  obtain ⟨W5, hrun, hM, hT⟩ := m4.put Try.underlying3 (t := 59) Try.underlying59 hdl (hD.fls.kwf x hxk) (.agg #[v', .int .i64 (q.fs x : Int)])
  obtain ⟨c1, _, _, _, _, c6⟩ := twB_cell blk4
  have sm : ∀ k, k ≠ w.heap.size + 1 → k < w4.heap.size → W5.heap[k]? = w4.heap[k]? := fun k e hk => hT.grown.block k hk fun e' => e (by cases e'; rfl)
  have hXs := gX.size
  have h4s := g4.size
  refine ⟨v', rfl, c1, c6, gb_trans gX g4, row_fm ho, W5, hrun, upd gv x v', putK dn x, ?_, ?_, fun n hn => ?_, fun n hn => ?_, fun n hn => ?_, fun n hn m hm hne k ek => ?_, ?_, ?_⟩
  · have r4 : RngA Try.prog 3 w4 fm (w.heap.size + 2) ks (lf.erase x) (fileV fv q.fs) :=
      hr.same ((g4.block _ (by omega)).trans ((gX.block _ (by omega)).trans (Below.heap_alloc _ _ _ (by omega)))) ((g4.block _ (by have := hr.lt; omega)).trans ((gX.block _ (by have := hr.lt; omega)).trans (Below.heap_alloc _ _ _ hr.lt)))
    exact r4.same (sm _ (by omega) r4.map.lt) (sm _ (by omega) r4.lt)
  · refine hM.ext fun n hn => ?_
    unfold putF fileV
    by_cases e : n = x
    · subst e; rw [if_pos rfl, upd_same]
    · rw [if_neg e, upd_ne _ _ e]
  · rcases h.cov n hn with h | h
    · by_cases e : n = x
      · subst e; exact .inr (mem_putK.2 (.inl rfl))
      · exact .inl ((List.mem_erase_of_ne e).2 h)
    · exact .inr (mem_putK.2 (.inr h))
  · rcases mem_putK.1 hn with rfl | hn
    · exact hxk
    · exact h.sub n hn
  · obtain ⟨_, _, em⟩ := m4.isMap
    by_cases e : n = x
    · subst e; rw [upd_same]
      refine row_same (ho.mono (by omega)) fun k ek => sm k ?_ (ho.lo k ek).2
      rintro rfl
      obtain ⟨cur, ec⟩ := row_cells ho ek
      exact map_cells em ec
    · rw [upd_ne _ _ e]
      have hn := (mem_putK.1 hn).resolve_left e
      have on := h.own n hn
      obtain ⟨_, _, em0⟩ := h.map.isMap
      refine row_same on fun k ek => ?_
      obtain ⟨cur, ec⟩ := row_cells on ek
      have kl := (on.lo k ek).2
      have k1 : k ≠ w.heap.size + 1 := by rintro rfl; exact map_cells em0 ec
      have k2 : k ≠ w.heap.size + 2 := by
        rintro rfl
        obtain ⟨D, left, cnt, ⟨es, clock, since, seen, c0, h1, F, h2, h3, h4, h5⟩, _⟩ := h.rng
        rw [h4] at ec; simp at ec
      exact (sm k k1 (by omega)).trans ((g4.block k (by omega)).trans (old k kl k2))
  · by_cases e : n = x
    · subst e; rw [upd_same] at ek
      rw [upd_ne _ _ (Ne.symm hne)]
      intro e3
      have hm := (mem_putK.1 hm).resolve_left (Ne.symm hne)
      have := ((h.own m hm).lo k e3).2
      have := (ho.lo k ek).1
      omega
    · rw [upd_ne _ _ e] at ek
      have hn2 := (mem_putK.1 hn).resolve_left e
      by_cases e' : m = x
      · subst e'; rw [upd_same]
        intro e3
        have := ((h.own n hn2).lo k ek).2
        have := (ho.lo k e3).1
        omega
      · rw [upd_ne _ _ e']
        exact h.dis n hn2 m ((mem_putK.1 hm).resolve_left e') hne k ek
  · exact (sm _ (by omega) (by omega)).trans blk4
  · exact below_grown' (gb_trans gwX g4) hT.grown fun k e => by injection e with e; omega
/-- The end: the names, the safe names and the changes are cloned. -/
theorem ClI.fin {dn : List Int} {W : World} {gv : Int → Value} (h : ClI w q fm nb sn cv ks fv [] W gv dn) (hD : DkM w b q F ks fm nb sn cv fv) (ok : q.Ok) (hst : q.st < 100000) (h2 : ∀ n ∈ ks, 0 ≤ n ∧ n < (q.st : Int)) (h3 : ks.length ≤ q.st) :
    Calls Try.prog 40 #[.map (some nb)] W fun e w1 => e = .returned (.map (some W.heap.size)) ∧ w1.cell? ⟨w.heap.size, 2, none⟩ = some (.map (some nb)) ∧ w1.frozen? ⟨w.heap.size, 2, none⟩ = false ∧ w.heap.size < w1.heap.size ∧ b ≠ w.heap.size ∧
      w1.cell? ⟨b, 3, none⟩ = some (.map (some sn)) ∧ b < w1.heap.size ∧ Hid (Calls Try.prog 40 #[.map (some sn)] (w1.setCell ⟨w.heap.size, 2, none⟩ (.map (some W.heap.size))) fun e w3 => ∃ s3, e = .returned (.map (some s3)) ∧ w3.cell? ⟨w.heap.size, 3, none⟩ = some (.map (some sn)) ∧ w3.frozen? ⟨w.heap.size, 3, none⟩ = false ∧ w.heap.size < w3.heap.size ∧
        w3.cell? ⟨b, 4, none⟩ = some cv ∧ b < w3.heap.size ∧ Hid (Calls Try.prog 41 #[cv] (w3.setCell ⟨w.heap.size, 3, none⟩ (.map (some s3))) fun e w5 => ∃ cw, e = .returned cw ∧ (∃ a c, cw = .slice a q.ch.length c) ∧ w5.cell? ⟨w.heap.size, 4, none⟩ = some cv ∧ w5.frozen? ⟨w.heap.size, 4, none⟩ = false ∧ w.heap.size < w5.heap.size ∧ Hid (ClOut w (w5.setCell ⟨w.heap.size, 4, none⟩ cw) w.heap.size q))) := by
  have hbl := hD.lt
  have hbW := h.gb.size
  have hnb := hD.nms.lt
  have hmp := h.map.lt
  have B := hD.blk
  have hne : b ≠ w.heap.size := Nat.ne_of_lt hbl
  refine (cloneM_c (hD.nms.same (h.gb.block _ hnb))).mono ?_
  rintro e w1 ⟨rfl, hN1, g1, s1⟩
  have k1 := (g1.block w.heap.size (by omega)).trans h.blk
  obtain ⟨_, c2, _, _, z2, l2⟩ := twB_cell k1
  have gw1 := gb_trans h.gb g1
  refine ⟨rfl, c2, z2 2, l2, hne, gb_keeps gw1 hD.cells.1.2.2.2.1, Nat.lt_of_lt_of_le hbl gw1.size, ?_⟩
  have e2 : (w1.setCell ⟨w.heap.size, 2, none⟩ (.map (some W.heap.size))).heap.size = w1.heap.size := World.size_setCell _ _ _
  have gw2 : Gb w (w1.setCell ⟨w.heap.size, 2, none⟩ (.map (some W.heap.size))) := gb_set gw1 (Nat.le_refl _) _
  have sm2 : ∀ k, k ≠ w.heap.size → (w1.setCell ⟨w.heap.size, 2, none⟩ (.map (some W.heap.size))).heap[k]? = w1.heap[k]? := fun k e => Below.heap_setCell _ _ _ _ e
  have k2 : (w1.setCell ⟨w.heap.size, 2, none⟩ (.map (some W.heap.size))).heap[w.heap.size]? = some (twB q (w.heap.size + 1) W.heap.size sn cv) := by
    rw [heap_set0 k1]; rfl
  refine (cloneM_c (hD.sfs.same (gw2.block _ hD.sfs.lt))).mono ?_
  rintro e w3 ⟨rfl, hN3, g3, s3⟩
  rw [e2] at hN3 s3
  have k3 := (g3.block w.heap.size (by omega)).trans k2
  obtain ⟨_, _, c3, _, z3, l3⟩ := twB_cell k3
  have gw3 := gb_trans gw2 g3
  refine ⟨_, rfl, c3, z3 3, l3, gb_keeps gw3 hD.cells.1.2.2.2.2.1, Nat.lt_of_lt_of_le hbl gw3.size, ?_⟩
  rw [e2]
  have e4 : (w3.setCell ⟨w.heap.size, 3, none⟩ (.map (some w1.heap.size))).heap.size = w3.heap.size := World.size_setCell _ _ _
  have gw4 : Gb w (w3.setCell ⟨w.heap.size, 3, none⟩ (.map (some w1.heap.size))) := gb_set gw3 (Nat.le_refl _) _
  have sm4 : ∀ k, k ≠ w.heap.size → (w3.setCell ⟨w.heap.size, 3, none⟩ (.map (some w1.heap.size))).heap[k]? = w3.heap[k]? := fun k e => Below.heap_setCell _ _ _ _ e
  have k4 : (w3.setCell ⟨w.heap.size, 3, none⟩ (.map (some w1.heap.size))).heap[w.heap.size]? = some (twB q (w.heap.size + 1) W.heap.size w1.heap.size cv) := by
    rw [heap_set0 k3]; rfl
  refine (cloneC_c (row_same hD.chs fun k e => gw4.block k (World.ownsRow.lt hD.chs k e).2) (by have := ok.sfL; omega)).mono ?_
  rintro e w5 ⟨cw, rfl, hC5, g5⟩
  have k5 := (g5.block w.heap.size (by omega)).trans k4
  obtain ⟨_, _, _, c5, z5, l5⟩ := twB_cell k5
  have gw5 := gb_trans gw4 g5
  have hs5 := g5.size
  refine ⟨cw, rfl, row_fm hC5, c5, z5 4, l5, Nat.le_refl _, ?_, gb_set gw5 (Nat.le_refl _) _⟩
  have sm6 : ∀ k, k ≠ w.heap.size → (w5.setCell ⟨w.heap.size, 4, none⟩ cw).heap[k]? = w5.heap[k]? := fun k e => Below.heap_setCell _ _ _ _ e
  -- a block of W, none of the twin's own
  have all : ∀ k, k < W.heap.size → k ≠ w.heap.size → (w5.setCell ⟨w.heap.size, 4, none⟩ cw).heap[k]? = W.heap[k]? := fun k hk e =>
    (sm6 k e).trans ((g5.block k (by omega)).trans ((sm4 k e).trans ((g3.block k (by omega)).trans ((sm2 k e).trans (g1.block k hk)))))
  have hownk : ∀ n ∈ dn, ∀ k, (gv n).ownBlock = some k → w.heap.size ≤ k ∧ k < W.heap.size ∧ k ≠ w.heap.size := fun n hn k ek => by
    have := (h.own n hn).lo k ek
    refine ⟨this.1, this.2, ?_⟩
    rintro rfl
    obtain ⟨cur, ec⟩ := row_cells (h.own n hn) ek
    rw [h.blk] at ec
    simp only [twB, Option.some.injEq, Obj.cells.injEq] at ec
    exact absurd ec.2.1 (by decide)
  have hall : ∀ n ∈ ks, n ∈ dn := fun n hn => (h.cov n hn).resolve_left (by simp)
  have hss : (w5.setCell ⟨w.heap.size, 4, none⟩ cw).heap.size = w5.heap.size := World.size_setCell _ _ _
  have hcw : ∀ k, cw.ownBlock = some k → k ≠ w.heap.size := fun k ek => by have := (World.ownsRow.lt hC5 k ek).1; omega
  refine ⟨dn, w.heap.size + 1, W.heap.size, w1.heap.size, cw, gv, ⟨?_, h.map.same (all _ hmp (by omega)), hN1.same ?_, hN3.same ?_, ?_, fun n hn => ?_, fun n hn k ek => ?_, h.dis, fun k ek => ?_, ?_, ⟨by omega, by omega, by omega⟩, fun p hp => hall _ (hD.nmK p hp), fun p hp => hall _ (hD.sfK p hp), fun c hc hne => hall _ (hD.chK c hc hne)⟩, fun n hn => h2 n (h.sub n hn), Nat.le_trans (nodup_sub_le h.map.nodup h.sub) h3, fun k h => h.2⟩
  · rw [heap_set0 k5]; rfl
  · exact (sm6 _ (by omega)).trans ((g5.block _ (by omega)).trans ((sm4 _ (by omega)).trans ((g3.block _ (by omega)).trans (sm2 _ (by omega)))))
  · exact (sm6 _ (by omega)).trans ((g5.block _ (by omega)).trans (sm4 _ (by omega)))
  · exact row_same (ownsRow_base_a hC5 (Nat.zero_le _)) fun k ek => sm6 k (hcw k ek)
  · exact row_same ((h.own n hn).mono (Nat.zero_le _)) fun k ek => all k (hownk n hn k ek).2.1 (hownk n hn k ek).2.2
  · have := hownk n hn k ek
    exact ⟨this.1, by omega⟩
  · have := World.ownsRow.lt hC5 k ek
    exact ⟨by omega, by omega⟩
  · exact ⟨⟨Nat.le_refl _, by omega⟩, ⟨by omega, by omega⟩, ⟨by omega, by omega⟩, ⟨by omega, by omega⟩⟩
end Go.Proofs.Ytkagnoinifffdaa
