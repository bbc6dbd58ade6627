import Derived.Test.YtepjbdklljlecabGreatVs20
import Derived.Test.YtepjbdklljlecabGreatVs49
import Derived.Test.YtepjbdklljlecabGreatVs21
import Derived.Test.YtepjbdklljlecabGreatVs3
import Derived.Test.YtepjbdklljlecabGreatVs46
import Derived.Test.YtepjbdklljlecabGreatVsFCert
import Derived.Test.YtepjbdklljlecabGreatVs52
/- A script of calls, a way of building, that came in. -/
namespace Go.Proofs.YtepjbdklljlecabGreat
open Go.ChangeShapes Go.WideShapes Go.ChangeAt Go.RowKit Go.Joins Go.Deep

theorem Tryz.cellsHow : Tryz.prog.cellsOf 25 = 3 := by kernel_rfl
set_option maxRecDepth 100000 in
/-- A way of building that came in. -/
theorem open_how {H : Type} {enc : TypeId × Value → H} {W : World} {b0 : Nat} {r : Reach} {v : Value} {d : DataW H} {p : List MemPlace}
    (hv' : Value.okWide Tryz.prog W r b0 25 v) (h : DataW.Trod enc Tryz.prog W 0 (fun _ => true) true 25 v d p) :
    ∃ A B S : Int, v = .agg #[.int .i64 A, .int .i64 B, .int .u64 S] ∧ Rn.U S := by
  obtain ⟨cs, rfl, hsz⟩ := okWide_struct Tryz.underlying25 hv'
  obtain ⟨fuel, hf⟩ := h
  obtain ⟨l⟩ := cs
  simp only [Value.cells] at hf
  obtain ⟨xs, n, _, _, hl, hlen, hf⟩ := DataW.trod_struct Tryz.underlying25 hf
  rw [Tryz.cellsHow] at hl
  match xs, hlen, l, hl with
  | [y0, y1, y2], _, [c0, c1, c2], _ =>
    obtain ⟨a0, e0, _⟩ := DataW.trod_int Tryz.underlying3 (by simpa using hf 0 _ rfl)
    obtain ⟨a1, e1, _⟩ := DataW.trod_int Tryz.underlying3 (by simpa using hf 1 _ rfl)
    obtain ⟨a2, e2, _, w2⟩ := DataW.trod_int Tryz.underlying23 (by simpa using hf 2 _ rfl)
    simp [Tryz.cells3, Tryz.cells23] at e0 e1 e2
    subst e0 e1 e2
    exact ⟨a0, a1, a2, rfl, word_of_wf w2⟩
theorem trod_struct6 {H : Type} {enc : TypeId × Value → H} {w : World} {base : Nat} {spare : Nat → Bool} {held : Bool} {t : TypeId} {f0 f1 f2 f3 f4 f5 : Field} {fuel : Nat} {cs : List Value} {x : DataW H × List MemPlace} (ht : Tryz.prog.underlying t = some (.struct #[f0, f1, f2, f3, f4, f5])) (h : DataW.trod enc Tryz.prog w base spare held fuel t cs = some x) :
    ∃ y0 y1 y2 y3 y4 y5 n, cs.length = Tryz.prog.cellsOf t ∧ DataW.trod enc Tryz.prog w base spare held n f0.type ((cs.drop f0.offset).take (Tryz.prog.cellsOf f0.type)) = some y0 ∧
      DataW.trod enc Tryz.prog w base spare held n f1.type ((cs.drop f1.offset).take (Tryz.prog.cellsOf f1.type)) = some y1 ∧ DataW.trod enc Tryz.prog w base spare held n f2.type ((cs.drop f2.offset).take (Tryz.prog.cellsOf f2.type)) = some y2 ∧
      DataW.trod enc Tryz.prog w base spare held n f3.type ((cs.drop f3.offset).take (Tryz.prog.cellsOf f3.type)) = some y3 ∧ DataW.trod enc Tryz.prog w base spare held n f4.type ((cs.drop f4.offset).take (Tryz.prog.cellsOf f4.type)) = some y4 ∧
      DataW.trod enc Tryz.prog w base spare held n f5.type ((cs.drop f5.offset).take (Tryz.prog.cellsOf f5.type)) = some y5 := by
  obtain ⟨xs, n, _, rfl, hl, hlen, hf⟩ := DataW.trod_struct ht h
  match xs, hlen with
  | [y0, y1, y2, y3, y4, y5], _ => exact ⟨y0, y1, y2, y3, y4, y5, n, hl, by simpa using hf 0 f0 rfl, by simpa using hf 1 f1 rfl, by simpa using hf 2 f2 rfl, by simpa using hf 3 f3 rfl, by simpa using hf 4 f4 rfl, by simpa using hf 5 f5 rfl⟩
theorem Tryz.cellsOp : Tryz.prog.cellsOf 51 = 7 := by kernel_rfl
set_option maxRecDepth 100000 in
/-- A script that came in. -/
theorem open_ops {H : Type} {enc : TypeId × Value → H} {W : World} {b0 : Nat} {r : Reach} {v : Value} {d : DataW H} {p : List MemPlace}
    (hv' : Value.okWide Tryz.prog W r b0 26 v) (h : DataW.Trod enc Tryz.prog W 0 (fun _ => true) true 26 v d p) :
    ∃ ops : List Opv, RdO W v ops ∧ ops.length ≤ maxLen := by
  obtain ⟨a0, len, cap, rfl⟩ := okWide_slice Tryz.underlying26 hv'
  obtain ⟨fuel, hf⟩ := h
  rcases open_slice Tryz.underlying26 (by simpa [Value.cells] using hf) with ⟨e, _⟩ | ⟨a, len, cap, m, n, D, Pl, e, _, hlc, hcm, hm, _, hx⟩
  · cases e
    exact ⟨[], rdo_nil W, Nat.zero_le _⟩
  · cases e
    rw [if_pos rfl] at hm
    subst hm
    have hy : ∀ i, i < len → ∃ y : Opv, ∃ rv qv, (W.cell? (a.add (i * 7)) = some (.int .i64 y.1.1) ∧ W.cell? ((a.add (i * 7)).add 1) = some (.int .i64 y.1.2.1) ∧ W.cell? ((a.add (i * 7)).add 2) = some (.int .i64 y.1.2.2.1) ∧ W.cell? ((a.add (i * 7)).add 3) = some (.int .i64 y.1.2.2.2) ∧ W.cell? ((a.add (i * 7)).add 4) = some (.int .i64 y.2.1.1) ∧ W.cell? ((a.add (i * 7)).add 5) = some rv ∧ W.cell? ((a.add (i * 7)).add 6) = some qv) ∧ RdI W rv y.2.1.2 ∧ RdI W qv y.2.2 := by
      intro i hi
      obtain ⟨cs, hc, ht⟩ := hx i (by omega)
      obtain ⟨y0, y1, y2, y3, y4, y5, k, hl, k0, k1, k2, k3, k4, k5⟩ := trod_struct6 Tryz.underlying51 ht
      rw [Tryz.cellsOp] at hl hc
      match cs, hl with
      | [c0, c1, c2, c3, c4, c5, c6], _ =>
        obtain ⟨z0, z1, m, _, hl1, j0, j1⟩ := trod_struct2 Tryz.underlying49 k4
        obtain ⟨a0, e0, _⟩ := DataW.trod_int Tryz.underlying3 k0
        obtain ⟨a1, e1, _⟩ := DataW.trod_int Tryz.underlying3 k1
        obtain ⟨a2, e2, _⟩ := DataW.trod_int Tryz.underlying3 k2
        obtain ⟨a3, e3, _⟩ := DataW.trod_int Tryz.underlying3 k3
        obtain ⟨a4, e4, _⟩ := DataW.trod_int Tryz.underlying3 j0
        obtain ⟨rv, rl, e5, hr, _⟩ := trod22 j1
        obtain ⟨qv, ql, e6, hq, _⟩ := trod22 k5
        simp [Tryz.cells3, Tryz.cells27, Tryz.cells49] at e0 e1 e2 e3 e4 e5 e6
        subst e0 e1 e2 e3 e4 e5 e6
        obtain ⟨_, _, hcc⟩ := World.cells?_some hc
        have q0 := hcc 0 (by omega)
        have q1 := hcc 1 (by omega)
        have q2 := hcc 2 (by omega)
        have q3 := hcc 3 (by omega)
        have q4 := hcc 4 (by omega)
        have q5 := hcc 5 (by omega)
        have q6 := hcc 6 (by omega)
        exact ⟨((a0, a1, a2, a3), (a4, rl), ql), _, _, ⟨by simpa [Addr.add] using q0, by simpa using q1, by simpa using q2, by simpa using q3, by simpa using q4, by simpa using q5, by simpa using q6⟩, hr, hq⟩
    obtain ⟨Y, hY⟩ := choose_lt (α := Opv) (p := fun i y => ∃ rv qv, (W.cell? (a.add (i * 7)) = some (.int .i64 y.1.1) ∧ W.cell? ((a.add (i * 7)).add 1) = some (.int .i64 y.1.2.1) ∧ W.cell? ((a.add (i * 7)).add 2) = some (.int .i64 y.1.2.2.1) ∧ W.cell? ((a.add (i * 7)).add 3) = some (.int .i64 y.1.2.2.2) ∧ W.cell? ((a.add (i * 7)).add 4) = some (.int .i64 y.2.1.1) ∧ W.cell? ((a.add (i * 7)).add 5) = some rv ∧ W.cell? ((a.add (i * 7)).add 6) = some qv) ∧ RdI W rv y.2.1.2 ∧ RdI W qv y.2.2) hy
    have hg : ∀ i, i < len → ((List.range len).map Y)[i]! = Y i := by
      intro i hi
      rw [getElem!_pos _ i (by simpa using hi)]; simp
    refine ⟨(List.range len).map Y, ⟨some a, m, by simp, fun i hi => ?_⟩, by simp; omega⟩
    have hi' : i < len := by simpa using hi
    obtain ⟨_, _, ⟨q0, _⟩, _⟩ := hY 0 (by omega)
    have ha : a = ⟨a.block, a.off, none⟩ := spot_none (by simpa [Addr.add] using q0)
    obtain ⟨rv, qv, ⟨c0, c1, c2, c3, c4, c5, c6⟩, h1, h2⟩ := hY i hi'
    rw [hg i hi']
    rw [ha, Addr.add_lit] at c0
    rw [ha, Addr.add_lit, Addr.add_lit] at c1 c2 c3 c4 c5 c6
    exact ⟨a.block, a.off, rv, qv, by rw [← ha], ⟨c0, c1, c2, c3, c4, c5, c6⟩, h1, h2⟩
end Go.Proofs.YtepjbdklljlecabGreat

/- Rows and ids by their order. -/
namespace Go.Proofs.YtepjbdklljlecabGreat
open Go.RowKit Go.Sort

/-- Rows by rising ids. -/
def srtR (rs : List Rw) : List Rw := rs.mergeSort fun a b => decide (a.1 ≤ b.1)
theorem srtR_perm (rs : List Rw) : (srtR rs).Perm rs := List.mergeSort_perm rs _
theorem srtR_ids (rs : List Rw) : idsOf (srtR rs) = srt (idsOf rs) := by
  refine srtI_unique _ _ ?_ (srt_srtI _) (((srtR_perm rs).map _).trans (srt_perm _).symm)
  have h := List.pairwise_mergeSort (le := fun a b : Rw => decide (a.1 ≤ b.1)) (fun a b c h1 h2 => by simp at *; omega) (fun a b => by simp; omega) rs
  unfold SrtI idsOf srtR
  rw [List.pairwise_map]
  exact h.imp fun h => by simpa using h
/-- Ids that differ rise when they are sorted. -/
theorem srt_lt {l : List Int} (h : l.Pairwise (· ≠ ·)) : ∀ i, i + 1 < (srt l).length → (srt l)[i]! < (srt l)[i + 1]! := fun i hi => by
  have h1 := srt_srtI l
  have h2 : (srt l).Pairwise (· ≠ ·) := (List.Perm.pairwise_iff (fun e => Ne.symm e) (srt_perm l)).2 h
  unfold SrtI at h1
  have a := List.pairwise_iff_getElem.1 h1 i (i + 1) (by omega) hi (by omega)
  have b := List.pairwise_iff_getElem.1 h2 i (i + 1) (by omega) hi (by omega)
  rw [getElem!_pos (srt l) i (by omega), getElem!_pos (srt l) (i + 1) hi]
  omega
theorem rise_of {l : List Int} (h : l.Pairwise (· ≠ ·)) (hok : ∀ x ∈ l, okId x = true) : rise (srt l) = true := by
  unfold rise
  have key : ∀ q, q ≤ (srt l).length → riseTo (srt l) q = true := by
    intro q
    induction q with
    | zero => intro _; rfl
    | succ q ih =>
      intro hq
      rw [riseTo, ih (by omega), Bool.true_and]
      unfold okAt
      have h1 : okId (srt l)[q]! = true := by
        rw [getElem!_pos (srt l) q (by omega)]
        exact hok _ ((srt_perm l).subset (List.getElem_mem _))
      rw [h1, Bool.true_and]
      cases q with
      | zero => rfl
      | succ j =>
        have := srt_lt h j (by omega)
        rw [Bool.or_eq_true]
        exact .inr (decide_eq_true (by rw [Nat.add_sub_cancel]; exact this))
  exact key _ (Nat.le_refl _)
end Go.Proofs.YtepjbdklljlecabGreat

/- A search's answer, plainly: sound, within its budget, the same in every later world. -/
namespace Go.Proofs.YtepjbdklljlecabGreat
open Go.RowKit Go.Sort

/-- What a search tells in every later world. -/
structure SeaP (W : World) (tb : Nat) (rs : List Rw) (q : List Int) (k b : Nat) (a : Ans) : Prop where
  sound : ∃ srs, SoundP rs q k a srs
  few : Few a
  le : a.seen.length ≤ b
  stop : a.seen.length = b ∨ a.seen.length = rs.length ∨ certB q k a = true
  sure : certB q k a = true → a.hits = Tk.firsts k (hitsOf q rs)
  dist : ∀ x ∈ a.hits, dnH x < 340282366920938463463374607431768211456 ∧ x.2.1 = hi (dnH x) ∧ x.2.2 = lo (dnH x)
  reg : ∀ r ∈ a.rest, ckB r q = 0 ∧ r.R < 340282366920938463463374607431768211456
  call : ∀ W1 u, Gb W W1 → RdI W1 u q → Calls Tryz.prog 8 #[.pointer (some ⟨tb, 0, none⟩), u, .int .i64 (k : Int), .int .i64 (b : Int)] W1 fun e W' => ∃ vh vs vr, e = .returned (.tuple #[.agg #[vh, vs, vr], .int .i64 0]) ∧ Gb W1 W' ∧ RdA W' vh vs vr a ∧ OwnA W' W1.heap.size W'.heap.size vh vs vr
theorem sub_flat {f : Pt → List Rw} {p : Pt} : ∀ {l : List Pt}, p ∈ l → (f p).Sublist (l.flatMap f)
  | [], h => by cases h
  | x :: r, h => by
    rw [List.flatMap_cons]
    rcases List.mem_cons.1 h with rfl | h
    · exact List.sublist_append_left _ _
    · exact (sub_flat h).trans (List.sublist_append_right _ _)
theorem rgat_rd {W : World} {B : Nat} {v : Value} {l : List Reg} (h : RgAt W B v l) : RdL W v l := by
  obtain ⟨xs, h1, h2⟩ := h
  rcases h1.2 with ⟨e, h0⟩ | ⟨g, cap, cur, e, _⟩
  · have e0 : l = [] := List.length_eq_zero_iff.1 h0
    subst e e0
    exact rdl_nil W
  · subst e
    refine ⟨_, cap, rfl, fun i hi' => ?_⟩
    obtain ⟨v1, v3, s, r, a, b, c, d, e, f, o1, o3⟩ := h2 i hi'
    have cc := h1.cells (g := g) rfl
    refine ⟨g, 0, v1, .slice none 0 0, v3, rfl, ?_, ?_, ?_, ?_, ?_, ?_, o1.rd, by rw [r]; exact ⟨none, 0, rfl, fun i hi => absurd hi (Nat.not_lt_zero _)⟩, o3.rd⟩
    · have := cc _ _ a; rw [Addr.add_lit] at this; rw [s]; exact this
    · have := cc _ _ b; rw [Addr.add_lit] at this; rw [Nat.add_assoc]; exact this
    · have := cc _ _ c; rw [Addr.add_lit] at this; rw [Nat.add_assoc]; exact this
    · have := cc _ _ d; rw [Addr.add_lit] at this; rw [Nat.add_assoc]; exact this
    · have := cc _ _ e; rw [Addr.add_lit] at this; rw [Nat.add_assoc]; exact this
    · have := cc _ _ f; rw [Addr.add_lit] at this; rw [Nat.add_assoc]; exact this
theorem kown_rd' {w : World} {v : Value} {l : List Tk.Ht} (h : Tk.Own w v l.toArray) : Tk.Rd w v l := by
  by_cases h0 : 0 < l.length
  · obtain ⟨g, cap, e, _, hl⟩ := kown_sl h h0
    exact .inr (.inr ⟨g, 0, cap, e, hl⟩)
  · have e : l = [] := List.length_eq_zero_iff.1 (by omega)
    subst e
    rcases h.2 with ⟨e, _⟩ | ⟨g, cap, cur, e, _⟩
    · exact .inl ⟨e, rfl⟩
    · exact .inr (.inl ⟨_, cap, e, rfl⟩)
theorem own_cur {W : World} {B n k : Nat} {t : TypeId} {v : Value} {xs : List Value} {g : Nat} {cap n' : Nat} (h : W.ownsRow B t k v n xs) (e : v = .slice (some ⟨g, 0, none⟩) n' cap) : ∃ cur, B ≤ g ∧ g < W.heap.size ∧ W.heap[g]? = some (.cells cur t (0, 0)) ∧ n * k ≤ cur.size ∧ ∀ (j : Nat) u, xs[j]? = some u → cur[j]? = some u := by
  have hc := h.cells (g := g) (by rw [e]; rfl)
  have hlt := h.lt g (by rw [e]; rfl)
  rcases h.2 with ⟨e', _⟩ | ⟨g', cap', cur, e', hB, hh, h1, h2, h3, _⟩
  · rw [e] at e'; cases e'
  · rw [e] at e'
    cases e'
    refine ⟨cur, hlt.1, hlt.2, hh, by rw [h3]; exact Nat.mul_le_mul_right k h1, fun j u hj => ?_⟩
    have := hc j u hj
    rw [Addr.add_lit, Nat.zero_add] at this
    simpa [World.cell?, hh] using this
theorem ansk_own {w0 W : World} {vh vs vr : Value} {hits : List Tk.Ht} {ids : List Int} {regs : List Reg} (h : AnsK w0 W vh vs vr hits ids regs) (h1 : hits.length ≤ 4000) (h2 : ids.length ≤ 4000) (h3 : regs.length ≤ 4000) (h4 : ∀ r ∈ regs, r.L.length ≤ 4000 ∧ r.H.length ≤ 4000 ∧ r.I.length ≤ 4000) : OwnA W w0.heap.size W.heap.size vh vs vr := by
  refine ⟨Nat.le_refl _, ?_, wi_own h.seen (by omega) (fun g e => (World.ownsRow.lt h.seen g e).2), ?_⟩
  · rcases h.hits.2 with ⟨e, h0⟩ | ⟨g, cap, cur, e, _⟩
    · exact ⟨_, _, _, e, Nat.zero_le _, .inl rfl⟩
    · obtain ⟨cur', _, b2, b3, b4, _⟩ := own_cur h.hits e
      exact ⟨_, _, _, e, by simp; omega, .inr ⟨g, cur', rfl, h.hB g (by rw [e]; rfl), b2, b3, by simpa using b4⟩⟩
  · obtain ⟨xs, o1, o2⟩ := h.rest
    rcases o1.2 with ⟨e, h0⟩ | ⟨g, cap, cur, e, _⟩
    · exact ⟨_, _, _, e, Nat.zero_le _, .inl rfl⟩
    · obtain ⟨cur', b1, b2, b3, b4, b5⟩ := own_cur o1 e
      refine ⟨_, _, _, e, by omega, .inr ⟨g, cur', rfl, b1, b2, b3, fun i hi' => ?_⟩⟩
      obtain ⟨v1, v3, s, r, a, b, c, d, e, f, q1, q3⟩ := o2 i hi'
      obtain ⟨l1, l2, l3⟩ := h4 _ (List.getElem_mem hi')
      exact ⟨3, v1, .slice none 0 0, _, _, v3, b5 _ _ a, b5 _ _ b, b5 _ _ c, b5 _ _ d, b5 _ _ e, b5 _ _ f, wi_own q1 (by omega) (fun g e => (World.ownsRow.lt q1 g e).2), wi_own (own_nil W w0.heap.size) (by simp) (fun g e => by simp [Value.ownBlock] at e), wi_own q3 (by omega) (fun g e => (World.ownsRow.lt q3 g e).2)⟩
theorem hit_dn {q : List Int} {r : Rw} (hd : dst q r.2 < 340282366920938463463374607431768211456) : dnH (hitOf q r) < 340282366920938463463374607431768211456 ∧ (hitOf q r).2.1 = hi (dnH (hitOf q r)) ∧ (hitOf q r).2.2 = lo (dnH (hitOf q r)) := by
  have e : dnH (hitOf q r) = dst q r.2 := by
    unfold dnH hitOf hi lo
    dsimp only
    omega
  rw [e]
  exact ⟨hd, rfl, rfl⟩
theorem regP_ck {T : Nat → Pt} {m N : Nat} {p : Pt} {q : List Int} (ok : OkP T m N p) (hbl : BlOk p) (hq : chk q (m : Int) = 0) (hids : (idsOf (rowsP T N p)).Pairwise (· ≠ ·)) (hok : ∀ r ∈ rowsP T N p, okId r.1 = true) : ckR (regP T N p) (q.length : Int) = 0 ∧ (regP T N p).L.length ≤ 64 ∧ (regP T N p).H.length ≤ 64 := by
  have hb := (ckR_ok (okP_box ok).1).2.1 (by show p.reg.S = 3; rw [hbl.1])
  have hl := (chk_ok hq).2.2.1
  have hr : rise (srt (idsOf (rowsP T N p))) = true := rise_of hids (fun x hx => by
    obtain ⟨row, hrow, rfl⟩ := List.mem_map.1 hx
    exact hok row hrow)
  have h1 := chk_ok hq
  have h2 := chk_ok hb
  refine ⟨?_, ?_, Nat.zero_le _⟩
  · unfold ckR
    rw [if_pos ⟨by omega, by omega⟩, if_pos ⟨by simp [uses, regP], hr⟩, if_neg (by unfold regP; dsimp only; decide), if_pos (by rfl)]
    rw [← hl]
    exact hb
  · show p.reg.L.length ≤ 64
    have : p.reg.L.length ≤ 64 := h2.2.1
    exact this
theorem kd_sea {Iq : Nat → Prop} {W : World} {tb m leaf : Nat} {rs : List Rw} {F : List Nat} (t : TreeAt Iq W tb m leaf rs F) {q : List Int} (hq : chk q (m : Int) = 0) {k b : Nat} (hk : 1 ≤ k ∧ k ≤ 64) (hb : b ≤ 1000000) : ∃ a, SeaP W tb rs q k b a := by
  obtain ⟨T, N, R, hI, hs, hB, c⟩ := kd_searchB t hq hk hb
  obtain ⟨hok, hm⟩ := t.rok
  have hql := (chk_ok hq).2.2.1
  have hids := hI.rows
  have hlen := hids.length_eq
  rw [List.length_append] at hlen
  have h512 := hok.few
  have hmem : ∀ r, r ∈ R.seen ++ R.opn.flatMap (rowsP T N) → r ∈ rs := fun r hr => hids.mem_iff.1 hr
  have hnd : (idsOf (R.seen ++ R.opn.flatMap (rowsP T N))).Pairwise (· ≠ ·) := (List.Perm.pairwise_iff (fun e => Ne.symm e) (hids.map Prod.fst)).2 hok.ids
  have hsn : (idsOf R.seen).Pairwise (· ≠ ·) := by
    unfold idsOf at hnd ⊢
    rw [List.map_append] at hnd
    exact (List.pairwise_append.1 hnd).1
  have hon : ∀ p ∈ R.opn, (idsOf (rowsP T N p)).Pairwise (· ≠ ·) := fun p hp => by
    unfold idsOf at hnd ⊢
    rw [List.map_append] at hnd
    exact (List.pairwise_append.1 hnd).2.1.sublist ((sub_flat hp).map _)
  have hom : ∀ p ∈ R.opn, ∀ r ∈ rowsP T N p, r ∈ rs := fun p hp r hr => hmem r (List.mem_append_right _ (List.mem_flatMap.2 ⟨p, hp, hr⟩))
  have hck : ∀ p ∈ R.opn, ckR (regP T N p) (q.length : Int) = 0 ∧ (regP T N p).L.length ≤ 64 ∧ (regP T N p).H.length ≤ 64 := fun p hp => regP_ck (hI.ok p hp) (hB p hp) hq (hon p hp) (fun r hr => (hok.row r (hom p hp r hr)).1)
  have hpl : ∀ p ∈ R.opn, (rowsP T N p).length ≤ (R.opn.flatMap (rowsP T N)).length := fun p hp => (sub_flat hp).length_le
  have hol : R.opn.length ≤ (R.opn.flatMap (rowsP T N)).length := by
    rw [List.length_flatMap]
    have : ∀ (l : List Pt), (∀ p ∈ l, 1 ≤ (rowsP T N p).length) → l.length ≤ (l.map fun p => (rowsP T N p).length).sum := by
      intro l
      induction l with
      | nil => intro _; simp
      | cons p r ih =>
        intro h
        have := ih (fun x hx => h x (List.mem_cons_of_mem _ hx))
        have := h p List.mem_cons_self
        simp only [List.map_cons, List.sum_cons, List.length_cons]
        omega
    exact this _ (fun p hp => List.length_pos_iff.2 (okP_ne N p (hI.ok p hp)))
  have hsl : (srt (idsOf R.seen)).length = R.seen.length := by rw [srt_len]; simp [idsOf]
  have hil : ∀ p, (srt (idsOf (rowsP T N p))).length = (rowsP T N p).length := fun p => by rw [srt_len]; simp [idsOf]
  have hregs : ∀ r ∈ R.opn.reverse.map (regP T N), ∃ p ∈ R.opn, r = regP T N p := fun r hr => by
    obtain ⟨p, hp, rfl⟩ := List.mem_map.1 hr
    exact ⟨p, List.mem_reverse.1 hp, rfl⟩
  have hfl : (Tk.firsts k (hitsOf q R.seen)).length ≤ 64 := by rw [Tk.firsts_len]; omega
  have hcb : certB q k ⟨Tk.firsts k (hitsOf q R.seen), srt (idsOf R.seen), R.opn.reverse.map (regP T N)⟩ = true ↔ R.opn = [] ∨ ((Tk.firsts k (hitsOf q R.seen)).length = k ∧ ∀ p ∈ R.opn, dN (Tk.firsts k (hitsOf q R.seen))[k - 1]! < bnd q p) := by
    unfold certB
    dsimp only
    rw [Bool.or_eq_true, Bool.and_eq_true, List.isEmpty_iff, List.map_eq_nil_iff, List.reverse_eq_nil_iff, decide_eq_true_eq, List.all_eq_true]
    refine or_congr Iff.rfl (and_congr ?_ ?_)
    · rw [Tk.firsts_len]; omega
    · constructor
      · intro h p hp
        have := h _ (List.mem_map.2 ⟨p, List.mem_reverse.2 hp, rfl⟩)
        have e3 : p.reg.S = 3 := by rw [(hB p hp).1]
        simpa [bdV, regP, bnd, dN, dnH, e3] using this
      · intro h r hr
        obtain ⟨p, hp, rfl⟩ := hregs r hr
        have := h p hp
        have e3 : p.reg.S = 3 := by rw [(hB p hp).1]
        simpa [bdV, regP, bnd, dN, dnH, e3] using this
  refine ⟨⟨Tk.firsts k (hitsOf q R.seen), srt (idsOf R.seen), R.opn.reverse.map (regP T N)⟩, ?_, ?_, ?_, ?_, ?_, ?_, ?_, ?_⟩
  · refine ⟨srtR R.seen, srtR_ids _, fun r hr => hmem r (List.mem_append_left _ ((srtR_perm _).subset hr)), srt_lt hsn, fun r hr => ?_, Tk.firsts_perm k (hitsOf_perm q (srtR_perm _)).symm, ?_⟩
    · obtain ⟨p, hp, rfl⟩ := hregs r hr
      refine ⟨(hck p hp).1, fun e => ?_, (hB p hp).2, fun x hx => ?_⟩
      · have h1 := List.length_pos_iff.2 (okP_ne N p (hI.ok p hp))
        have h0 : (regP T N p).I.length = 0 := by rw [e]; rfl
        have h2 : (regP T N p).I.length = (rowsP T N p).length := hil p
        omega
      · obtain ⟨row, hrow, e⟩ := List.mem_map.1 ((srt_perm _).subset hx)
        refine ⟨row, hom p hp row hrow, e, ?_⟩
        have h3 := ((okP_box (hI.ok p hp)).2 row hrow).2
        have e3 : p.reg.S = 3 := by rw [(hB p hp).1]
        have h4 : dst p.reg.L row.2 ≤ p.reg.R := by simpa [inV, pr, e3] using h3
        show inV ⟨3, p.reg.L, [], p.reg.R, srt (idsOf (rowsP T N p))⟩ row.2 = true
        unfold inV
        rw [if_neg (by dsimp only; decide), if_pos rfl]
        exact decide_eq_true h4
    · unfold allIds
      dsimp only
      refine List.Perm.trans ?_ (hids.map Prod.fst)
      rw [List.map_append]
      refine List.Perm.append (srt_perm _) ?_
      rw [List.flatMap_map, List.map_flatMap]
      refine List.Perm.trans (List.Perm.flatMap_right _ (List.reverse_perm _)) ?_
      have : ∀ (l : List Pt), (l.flatMap fun p => (regP T N p).I).Perm (l.flatMap fun p => (rowsP T N p).map Prod.fst) := by
        intro l
        induction l with
        | nil => exact List.Perm.refl _
        | cons p r ih =>
          rw [List.flatMap_cons, List.flatMap_cons]
          exact List.Perm.append (srt_perm _) ih
      exact this _
  · refine ⟨by dsimp only; omega, by dsimp only; rw [hsl]; omega, by dsimp only; rw [List.length_map, List.length_reverse]; omega, fun r hr => ?_⟩
    obtain ⟨p, hp, rfl⟩ := hregs r hr
    have h1 := hck p hp
    have h2 := hpl p hp
    refine ⟨by omega, by omega, ?_⟩
    unfold regP
    dsimp only
    rw [hil]
    omega
  · dsimp only
    rw [hsl]
    have := hI.bud
    omega
  · dsimp only
    rw [hsl, hcb]
    have := hI.bud
    rcases step_none hI hs with h | h | h
    · exact .inr (.inr (.inl h))
    · exact .inr (.inr (.inr h))
    · exact .inl (by omega)
  · intro h
    exact search_whole hq hI hs (.inr (hcb.1 h))
  · intro x hx
    dsimp only at hx
    unfold Tk.firsts at hx
    obtain ⟨r, hr, rfl⟩ := List.mem_map.1 ((Tk.srt_perm _).mem_iff.1 (List.mem_of_mem_take hx))
    have h1 := chk_ok (hok.row r (hmem r (List.mem_append_left _ hr))).2
    have h2 := chk_ok hq
    exact hit_dn (dst_lt h2.2.2.2 h1.2.2.2 (by omega) (by omega))
  · intro r hr
    obtain ⟨p, hp, rfl⟩ := hregs r hr
    refine ⟨?_, (hB p hp).2⟩
    unfold ckB
    rw [if_pos (hck p hp).1, ← hql]
    exact hq
  · intro W1 u g hu
    refine (c W1 u g hu).mono ?_
    rintro e W' ⟨vh, vs, vr, rfl, hA⟩
    refine ⟨vh, vs, vr, rfl, hA.gb, ⟨kown_rd' hA.hits, hA.seen.rd, rgat_rd hA.rest⟩, ansk_own hA (by omega) (by omega) (by rw [List.length_map, List.length_reverse]; omega) (fun r hr => ?_)⟩
    obtain ⟨p, hp, rfl⟩ := hregs r hr
    have h1 := hck p hp
    have h2 := hpl p hp
    refine ⟨by omega, by omega, ?_⟩
    unfold regP
    dsimp only
    rw [hil]
    omega
end Go.Proofs.YtepjbdklljlecabGreat

/- VptreeSure's walk. -/
namespace Go.Proofs.YtepjbdklljlecabGreat
open Go.RowKit Go.Sort

theorem swf_ok {rs : List Rw} {d : Int} (h : RowsOk rs d) : Wf rs := by
  refine ⟨by have := h.few; omega, fun i hi => ?_⟩
  have h1 := (okId_iff _).1 (h.row rs[i]! (by rw [getElem!_pos rs i hi]; exact List.getElem_mem hi)).1
  generalize rs[i]!.1 = x at h1 ⊢
  simp [Lit.wf, IntKind.min, IntKind.max, IntKind.signed, IntKind.bits]
  omega
theorem TrW.sea {Iq : Nat → Prop} {w0 W : World} {tb m leaf : Nat} {rs : List Rw} (h : TrW Iq w0 tb m leaf rs W) {q : List Int} (hq : chk q (m : Int) = 0) {k b : Nat} (hk : 1 ≤ k ∧ k ≤ 64) (hb : b ≤ 1000000) : ∃ a, SeaP W tb rs q k b a := by
  obtain ⟨F, t, _⟩ := h
  exact kd_sea t hq hk hb
theorem TrW.srch_no {Iq : Nat → Prop} {w0 W : World} {tb m leaf : Nat} {rs : List Rw} (h : TrW Iq w0 tb m leaf rs W) {u : Value} {q : List Int} (hu : RdI W u q) (k b : Int) (hz : srchE m q k b ≠ 0) :
    Calls Tryz.prog 8 #[.pointer (some ⟨tb, 0, none⟩), u, .int .i64 k, .int .i64 b] W fun e w' => e = .returned (.tuple #[.agg #[.slice none 0 0, .slice none 0 0, .slice none 0 0], .int .i64 (srchE m q k b)]) ∧ Gb W w' := by
  obtain ⟨F, t, _⟩ := h
  exact ksearch_no t hu k b hz
theorem TrW.srok {Iq : Nat → Prop} {w0 W : World} {tb m leaf : Nat} {rs : List Rw} (h : TrW Iq w0 tb m leaf rs W) : RowsOk rs (m : Int) ∧ 1 ≤ m ∧ m ≤ 64 := by
  obtain ⟨F, t, _⟩ := h
  exact t.rok
theorem RdA.slices {W : World} {vh vs vr : Value} {a : Ans} (h : RdA W vh vs vr a) : ∃ a1 n1 c1 a2 n2 c2 a3 n3 c3, vh = .slice a1 n1 c1 ∧ vs = .slice a2 n2 c2 ∧ vr = .slice a3 n3 c3 := by
  obtain ⟨a1, c1, e1, _⟩ := h.hits.form
  obtain ⟨a2, c2, e2, _⟩ := h.seen
  obtain ⟨a3, c3, e3, _⟩ := h.rest
  exact ⟨_, _, _, _, _, _, _, _, _, e1, e2, e3⟩
set_option maxRecDepth 100000 in
set_option maxHeartbeats 4000000 in
theorem sure_no {w : World} {v u sc : Value} {l : List Rw} {q : List Int} {ops : List Opv} (hv : RdW w v l) (hwf : Wf l) (hs : RdO w sc ops) (hu : RdI w u q) (leaf B S k b : Int) (hz : bldE l (q.length : Int) leaf ≠ 0) :
    Calls Tryz.prog 3 #[v, .agg #[.int .i64 leaf, .int .i64 B, .int .u64 S], sc, u, .int .i64 k, .int .i64 b] w fun e w' => e = .returned (.bool true) ∧ Gb w w' := by
  have g1 : Gb w (w.alloc (.cells #[.int .i64 leaf, .int .i64 B, .int .u64 S] 25)) := gb_alloc (Below.refl _ _) _
  obtain ⟨w1, hw1⟩ : ∃ w1, w1 = w.alloc (.cells #[.int .i64 leaf, .int .i64 B, .int .u64 S] 25) := ⟨_, rfl⟩
  rw [← hw1] at g1
  have c0 : w1.cell? ⟨w.heap.size, 0, none⟩ = some (.int .i64 leaf) := by rw [hw1]; simp [go_sem]
  have c1 : w1.cell? ⟨w.heap.size, 1, none⟩ = some (.int .i64 B) := by rw [hw1]; simp [go_sem]
  have c2 : w1.cell? ⟨w.heap.size, 2, none⟩ = some (.int .u64 S) := by rw [hw1]; simp [go_sem]
  have cB := kbig_c (hv.gb g1) (by have := hwf.1; omega) (hs.gb g1)
  have cU := fun W (g : Gb w1 W) => kbuild_no ((hv.gb g1).gb g) hwf (q.length : Int) leaf B S hz
  have CU : Hid _ := cU
  clear cU
  obtain ⟨av, cv, ev, _⟩ := hv
  obtain ⟨aq, cq, eq, _⟩ := hu.rd0
  obtain ⟨sca, scc, es, _⟩ := hs
  subst ev eq es
  generalize bldE l (q.length : Int) leaf = z at *
  generalize l.length = n at *
  generalize q.length = m at *
  generalize ops.length = no at *
  have hzb : (z == 0) = false := by rw [beq_eq_false_iff_ne]; exact hz
  clear hwf hu
  go_enter Tryz.func3, Tryz.ntmps3
  go_wp2_with fail
  rw [← hw1]
  clear hw1
  refine cB.mono ?_
  rintro e w2 ⟨bb, rfl, g2⟩
  have d0 := gb_keeps g2 c0
  have d1 := gb_keeps g2 c1
  have d2 := gb_keeps g2 c2
  have G2 := gb_trans g1 g2
  clear cB c0 c1 c2
  cases bb with
  | true =>
    go_wp2
    refine bodyPost_ret (v := .bool true) (by simp [results, Tryz.results3, go_sem]) rfl ⟨rfl, ?_⟩
    exact G2
  | false =>
    by_cases h1 : 32768 < (m : Int)
    · skip
      go_wp2
      refine bodyPost_ret (v := .bool true) (by simp [results, Tryz.results3, go_sem]) rfl ⟨rfl, ?_⟩
      exact G2
    have cU := CU.out w2 g2
    clear CU
    go_wp2_with fail
    refine cU.mono ?_
    rintro e w3 ⟨rfl, g3⟩
    have G3 := gb_trans G2 g3
    clear cU d0 d1 d2
    go_wp2_with fail
    refine (kawake_c _).mono ?_
    rintro e wz ⟨rfl, gz⟩
    have GZ : Hid (Gb w wz) := gb_trans G3 gz
    clear gz
    go_wp2
    refine bodyPost_ret (v := .bool true) (by simp [results, Tryz.results3, go_sem]) rfl ⟨rfl, ?_⟩
    exact GZ.out

set_option maxRecDepth 100000 in
set_option maxHeartbeats 8000000 in
theorem sure_ok {w : World} {v u sc : Value} {l : List Rw} {q : List Int} {ops : List Opv} {lf : Nat} (hv : RdW w v l) (hwf : Wf l) (hs : RdO w sc ops) (hn : ops.length ≤ 9223372036854775807) (hu : RdI w u q) (B S k b : Int) (hz : flatE l (q.length : Int) = 0) (hlf : 1 ≤ lf ∧ lf ≤ 64) (hus : Rn.U S) :
    Calls Tryz.prog 3 #[v, .agg #[.int .i64 (lf : Int), .int .i64 B, .int .u64 S], sc, u, .int .i64 k, .int .i64 b] w fun e w' => e = .returned (.bool true) ∧ Gb w w' := by
  have g1 : Gb w (w.alloc (.cells #[.int .i64 (lf : Int), .int .i64 B, .int .u64 S] 25)) := gb_alloc (Below.refl _ _) _
  obtain ⟨w1, hw1⟩ : ∃ w1, w1 = w.alloc (.cells #[.int .i64 (lf : Int), .int .i64 B, .int .u64 S] 25) := ⟨_, rfl⟩
  rw [← hw1] at g1
  have c0 : w1.cell? ⟨w.heap.size, 0, none⟩ = some (.int .i64 (lf : Int)) := by rw [hw1]; simp [go_sem]
  have c1 : w1.cell? ⟨w.heap.size, 1, none⟩ = some (.int .i64 B) := by rw [hw1]; simp [go_sem]
  have c2 : w1.cell? ⟨w.heap.size, 2, none⟩ = some (.int .u64 S) := by rw [hw1]; simp [go_sem]
  have cB := kbig_c (hv.gb g1) (by have := hwf.1; omega) (hs.gb g1)
  have cU := fun W (g : Gb w1 W) => kbuild_ok (upT W) ((hv.gb g1).gb g) hwf (m := q.length) hz hlf B S hus
  have CU : Hid _ := cU
  have HU : Hid (RdI w u q) := hu
  have HS : Hid (RdO w sc ops) := hs
  have HN : Hid (ops.length ≤ 9223372036854775807) := hn
  obtain ⟨av, cv, ev, _⟩ := hv
  obtain ⟨aq, cq, eq, _⟩ := hu.rd0
  obtain ⟨sca, scc, es, _⟩ := hs
  subst ev eq es
  clear cU hwf hu hz hlf hn hus
  go_enter Tryz.func3, Tryz.ntmps3
  go_wp2_with fail
  rw [← hw1]
  clear hw1
  refine cB.mono ?_
  rintro e w2 ⟨bb, rfl, g2⟩
  have d0 := gb_keeps g2 c0
  have d1 := gb_keeps g2 c1
  have d2 := gb_keeps g2 c2
  have G2 := gb_trans g1 g2
  clear cB c0 c1 c2
  cases bb with
  | true =>
    go_wp2
    refine bodyPost_ret (v := .bool true) (by simp [results, Tryz.results3, go_sem]) rfl ⟨rfl, ?_⟩
    exact G2
  | false =>
    by_cases h1 : 32768 < (q.length : Int)
    · skip
      go_wp2
      refine bodyPost_ret (v := .bool true) (by simp [results, Tryz.results3, go_sem]) rfl ⟨rfl, ?_⟩
      exact G2
    have cU := CU.out w2 g2
    clear CU g1 g2
    go_wp2_with fail
    refine cU.mono ?_
    intro e w3 hO
    obtain ⟨tb, rs0, rfl, T3, pm, _⟩ := trw_of hO
    have cP := plays_c T3 (HS.out.gb G2) HN.out
    clear cU hO T3 d0 d1 d2 pm
    go_wp2_with fail
    refine cP.mono ?_
    rintro e w4 ⟨rfl, T4⟩
    clear cP
    generalize ops.foldl (playRw q.length) rs0 = rs at *
    have hu4 := (HU.out.gb G2).gb T4.old
    by_cases hz : srchE q.length q k b = 0
    · obtain ⟨hq, hk, hb⟩ := srchE_zero.1 hz
      obtain ⟨K, rfl⟩ := Int.eq_ofNat_of_zero_le (show 0 ≤ k by omega)
      obtain ⟨Bb, rfl⟩ := Int.eq_ofNat_of_zero_le hb.1
      obtain ⟨an, hS⟩ := T4.sea hq (k := K) (b := Bb) (by omega) (by omega)
      have cS := hS.call w4 _ (Below.refl _ _) hu4
      have HS4 : Hid (SeaP w4 tb rs q K Bb an) := hS
      have HU4 : Hid (RdI w4 (.slice aq q.length cq) q) := hu4
      have HT4 : Hid (TrW IqT w2 tb q.length lf rs w4) := T4
      have KK : Hid ((1 ≤ K ∧ K ≤ 64) ∧ chk q (q.length : Int) = 0) := ⟨by omega, hq⟩
      clear hS hu4 T4 hz hq hk hb
      go_wp2_with fail
      refine cS.mono ?_
      rintro e w5 ⟨vh, vs, vr, rfl, G5, hA, _⟩
      obtain ⟨a1, n1, k1, a2, n2, k2, a3, n3, k3, e1, e2, e3⟩ := hA.slices
      subst e1 e2 e3
      obtain ⟨wx, hwx⟩ : ∃ wx, wx = w5.alloc (.cells #[.slice a1 n1 k1, .slice a2 n2 k2, .slice a3 n3 k3] 38) := ⟨_, rfl⟩
      have gx : Gb w5 wx := by rw [hwx]; exact gb_alloc (Below.refl _ _) _
      have x0 : wx.cell? ⟨w5.heap.size, 0, none⟩ = some (.slice a1 n1 k1) := by rw [hwx]; simp [go_sem]
      have x1 : wx.cell? ⟨w5.heap.size, 1, none⟩ = some (.slice a2 n2 k2) := by rw [hwx]; simp [go_sem]
      have x2 : wx.cell? ⟨w5.heap.size, 2, none⟩ = some (.slice a3 n3 k3) := by rw [hwx]; simp [go_sem]
      have G5x : Hid (Gb w4 wx) := gb_trans G5 gx
      have TX : Hid (TrW IqT w2 tb q.length lf rs wx) := HT4.out.gb G5x.out
      have hux : Hid (RdI wx (.slice aq q.length cq) q) := HU4.out.gb G5x.out
      have cC := rcertain_c hux.out (hA.gb gx) KK.out.1 HS4.out.few.rest (by have := HS4.out.few.hits; omega) HS4.out.reg HS4.out.dist
      have SU : Hid (certB q K an = true → an.hits = Tk.firsts K (hitsOf q rs)) := HS4.out.sure
      have HA : Hid (RdA wx (.slice a1 n1 k1) (.slice a2 n2 k2) (.slice a3 n3 k3) an) := hA.gb gx
      have HF : Hid (an.hits.length ≤ 4000) := HS4.out.few.hits
      clear cS hA HS4 HT4 HU4 G5 gx
      generalize certB q K an = cb at *
      go_wp2_with fail
      rw [← hwx]
      clear hwx
      go_wp2_with fail
      refine cC.mono ?_
      rintro e w6 ⟨rfl, g6⟩
      have T6 : Hid (TrW IqT w2 tb q.length lf rs w6) := TX.out.gb g6
      have x0 := gb_keeps g6 x0
      have hu6 : Hid (RdI w6 (.slice aq q.length cq) q) := hux.out.gb g6
      have G6 : Gb w w6 := gb_trans G2 T6.out.old
      clear cC x1 x2 TX hux
      cases cb with
      | false =>
        clear x0 hu6
        go_wp2_with fail
        refine (kawake_c _).mono ?_
        rintro e wz ⟨rfl, gz⟩
        have GZ : Hid (Gb w wz) := gb_trans G6 gz
        clear gz
        go_wp2
        refine bodyPost_ret (v := .bool true) (by simp [results, Tryz.results3, go_sem]) rfl ⟨rfl, ?_⟩
        exact GZ.out
      | true =>
        have HH := SU.out rfl
        obtain ⟨hok, hm⟩ := T6.out.srok
        have TE : topE rs q (K : Int) = 0 := by
          have hk := KK.out.1
          have hf : flatE rs (q.length : Int) = 0 := flatE_zero.2 ⟨by omega, hok⟩
          unfold topE askE
          rw [if_pos KK.out.2, hf, if_pos rfl, if_pos (by omega)]
        have WF := swf_ok hok
        have cR := trw_rows T6.out
        have WF' : Hid (Wf rs) := WF
        have HH' : Hid (an.hits = Tk.firsts K (hitsOf q rs)) := HH
        clear hok hm WF HH
        go_wp2_with fail
        refine cR.mono ?_
        rintro e w7 ⟨v7, rfl, o7, g7⟩
        have cT := topk_c (o7.rdw) (hu6.out.gb g7) WF'.out (K : Int)
        rw [TE] at cT
        obtain ⟨r7, c7, rfl⟩ := o7.form
        clear cR TE o7 WF'
        go_wp2_with fail
        refine cT.mono ?_
        rintro e w9 ⟨v9, rfl, g9, _, y9⟩
        obtain ⟨y9, _⟩ := y9 (by first | rfl | trivial)
        have G79 := gb_trans g7 g9
        have x0 := gb_keeps G79 x0
        have R9 : Tk.Rd w9 v9 (Tk.firsts K (hitsOf q rs)) := by
          have h := kown_rd' y9
          rw [Int.toNat_natCast] at h
          exact h
        have cH : ∀ W, Gb w9 W → Calls Tryz.prog 12 #[.slice a1 n1 k1, v9] W fun e w' => e = .returned (.bool true) ∧ Gb W w' := by
          intro W gW
          have o1 := (HA.out.gb (gb_trans g6 (gb_trans G79 gW))).hits
          rw [HH'.out] at o1
          refine (Tk.same_c o1 (R9.gr gW) (by have := HF.out; rw [HH'.out] at this; exact this)).mono ?_
          rintro e w' ⟨rfl, g⟩
          exact ⟨by simp, g⟩
        obtain ⟨a9, c9, e9, _⟩ := R9.form
        generalize (Tk.firsts K (hitsOf q rs)).length = n9 at *
        subst e9
        have G9 : Gb w w9 := gb_trans G6 G79
        clear cT g7 g9 y9 R9 G79 HH' hu6 HA SU
        go_wp2_with fail
        refine (kawake_c _).mono ?_
        rintro e wa ⟨rfl, ga⟩
        have x0 := gb_keeps ga x0
        have cH := cH _ ga
        go_wp2_with fail
        refine cH.mono ?_
        rintro e wh ⟨rfl, gh⟩
        have G11 : Hid (Gb w wh) := gb_trans G9 (gb_trans ga gh)
        clear cH x0 ga gh
        go_wp2
        refine bodyPost_ret (v := .bool true) (by simp [results, Tryz.results3, go_sem]) rfl ⟨rfl, ?_⟩
        exact G11.out
    · have cS := T4.srch_no hu4 k b hz
      have hzb : (srchE q.length q k b == 0) = false := by rw [beq_eq_false_iff_ne]; exact hz
      generalize srchE q.length q k b = z at *
      go_wp2_with fail
      refine cS.mono ?_
      rintro e w5 ⟨rfl, G5⟩
      have G5' : Gb w (w5.alloc (.cells #[.slice none 0 0, .slice none 0 0, .slice none 0 0] 38)) := gb_alloc (gb_trans (gb_trans G2 T4.old) G5) _
      clear cS
      go_wp2_with fail
      refine (kawake_c _).mono ?_
      rintro e wz ⟨rfl, gz⟩
      have GZ : Hid (Gb w wz) := gb_trans G5' gz
      clear gz
      go_wp2
      refine bodyPost_ret (v := .bool true) (by simp [results, Tryz.results3, go_sem]) rfl ⟨rfl, ?_⟩
      exact GZ.out

end Go.Proofs.YtepjbdklljlecabGreat
