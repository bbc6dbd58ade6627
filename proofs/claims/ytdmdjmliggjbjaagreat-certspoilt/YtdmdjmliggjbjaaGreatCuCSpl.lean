/- CertSpoilt's walk. -/
import Derived.Test.YtdmdjmliggjbjaaGreatCt42
import Derived.Test.YtdmdjmliggjbjaaGreatCt41
import Derived.Test.YtdmdjmliggjbjaaGreatCuCLn
import Derived.Test.YtdmdjmliggjbjaaGreatCuCSq
import Derived.Deep.RegionLaw
import Derived.Laws.IdiomCopy
namespace Go.Proofs.YtdmdjmliggjbjaaGreat
open Go.RowKit Go.Sort Go.Maps Go.Shelf

theorem InA.spo0 {a : Ans} {i : Nat} (h : InA a) (hi' : i < a.seen.length) : InA (spo0 a i) := by
  refine ⟨by have := spo0_len hi'; have := h.ids; omega, h.rest, h.hits, fun x hx => h.kw x ?_, h.R⟩
  unfold allIds Go.Proofs.YtdmdjmliggjbjaaGreat.spo0 at hx
  rcases List.mem_append.1 hx with hx | hx
  · rcases List.mem_append.1 hx with hx | hx
    · exact List.mem_append_left _ (List.mem_of_mem_take hx)
    · exact List.mem_append_left _ (List.mem_of_mem_drop hx)
  · exact List.mem_append_right _ hx
theorem InA.spo1 {a : Ans} {i : Nat} {x : Tk.Ht} (h : InA a) : InA (spo1 a i x) := ⟨h.ids, h.rest, by simp only [Go.Proofs.YtdmdjmliggjbjaaGreat.spo1, List.length_set]; exact h.hits, h.kw, h.R⟩
theorem InA.spo2 {a : Ans} {x : Tk.Ht} (h : InA a) (hl : a.hits.length ≤ 16384) : InA (spo2 a x) := ⟨h.ids, h.rest, by simp only [Go.Proofs.YtdmdjmliggjbjaaGreat.spo2, List.length_append, List.length_singleton]; omega, h.kw, h.R⟩
theorem InA.spo3 {a : Ans} {x : Int} (h : InA a) (hl : (allIds a).length ≤ 16384 ∧ a.rest.length ≤ 16384) (hx : KWf x) : InA (spo3 a x) := by
  refine ⟨by rw [spo3_len]; omega, by simp only [Go.Proofs.YtdmdjmliggjbjaaGreat.spo3, List.length_append, List.length_singleton]; omega, h.hits, fun y hy => ?_, fun r hr => ?_⟩
  · unfold allIds Go.Proofs.YtdmdjmliggjbjaaGreat.spo3 at hy
    simp only [List.flatMap_append, List.flatMap_cons, List.flatMap_nil, List.append_nil, List.mem_append, List.mem_singleton] at hy
    rcases hy with hy | hy | hy
    · exact h.kw y (List.mem_append_left _ hy)
    · exact h.kw y (List.mem_append_right _ hy)
    · rw [hy]; exact hx
  · simp only [Go.Proofs.YtdmdjmliggjbjaaGreat.spo3, List.mem_append, List.mem_singleton] at hr
    rcases hr with hr | hr
    · exact h.R r hr
    · rw [hr]; dsimp only; decide
/-- append to a list of one's own, as one step of a region. -/
theorem step_append_ownC {P : Program} {ops : Array Oper} {o : Oper} {a : Act} {w : World} {K : Act → World → Prop} {Q : Exit → Act → World → Prop} {E : Prop}
    (hg : o.guard = none) (s x : Operand) (t : TypeId) (ho : o.op = .call { callee := .builtin .append, args := #[s, x], argTypes := #[t, t] })
    (base : Nat) (e : TypeId) (i : TypeInfo) (z : Value) (size bytes : Nat) (ht : P.underlying t = some (.slice e)) (hi : P.info? e = some i) (hz : i.zero = some z)
    (hsize : i.size = size) (hby : i.bytes = bytes) (hzs : z.cells.size = size) (hsz : 0 < size)
    (v : Value) (n : Nat) (xs : List Value) (hs : a.eval s = v) (hown : w.ownsRow base e size v n xs)
    (ad : Addr) (m c : Nat) (news : List Value) (hx : a.eval x = .slice (some ad) m c) (hl : news.length = m * size) (hnews : ∀ j u, news[j]? = some u → w.cell? (ad.add j) = some u) (h1 : ∀ u ∈ news, u.oneCell' = true)
    (h63 : n + m ≤ maxLen) (hbytes : (n + m) * bytes ≤ 140737488355328) (hbase : base ≤ w.heap.size)
    (h : ∀ ax c w', w'.ownsRow base e size (.slice ax (n + m) c) (n + m) (xs ++ news) → w.grownBy w' v.ownBlock → K (a.put o.dst (.slice ax (n + m) c)) w') :
    if Region.wanted o (yielded ops a.tmps) = true then Oper.wp P o a w K Q else E := by
  have hw : Region.wanted o (yielded ops a.tmps) = true := by simp [Region.wanted, hg]
  rw [if_pos hw]
  refine wp_append_own (P := P) w s x t ho base e i z size bytes ht hi hz hsize hby hzs hsz v n xs hs hown ad m c news hx hl hnews h1 h63 hbytes hbase (fun v' w' h2 h3 _ => ?_)
  obtain ⟨ax, c', rfl⟩ := row_fm h2
  exact h ax c' w' h2 h3
theorem three_cellsC (w : World) (x0 x1 x2 : Value) (t : TypeId) : ∀ j u, [x0, x1, x2][j]? = some u → (w.alloc (.cells #[x0, x1, x2] t)).cell? ((⟨w.heap.size, 0, none⟩ : Addr).add j) = some u := by
  intro j u hj
  rw [Addr.add_lit]
  rcases j with _ | _ | _ | j <;> simp at hj <;> (subst hj; simp [go_sem])
theorem row_mono {W : World} {B B' n s : Nat} {e : TypeId} {v : Value} {xs : List Value} (h : W.ownsRow B e s v n xs) (hb : B' ≤ B) : W.ownsRow B' e s v n xs := by
  refine ⟨h.1, ?_⟩
  rcases h.2 with h | ⟨g, cap, cur, e, h1, r⟩
  · exact .inl h
  · exact .inr ⟨g, cap, cur, e, by omega, r⟩
theorem var_kept {V w5 : World} {O o : Nat} {r : Option Nat} {v : Value} (g5 : V.grownBy w5 r) (hne : some O ≠ r) (hc : V.cell? ⟨O, o, none⟩ = some v) (hf : V.frozen? ⟨O, o, none⟩ = false) : w5.cell? ⟨O, o, none⟩ = some v ∧ w5.frozen? ⟨O, o, none⟩ = false :=
  ⟨(Tk.Kp.grown g5).cell hc hne, frozen_blk (g5.block O (cell_lt hc) hne) hf⟩
/-- A hit more: what is there then. -/
theorem spo2_rd {W w5 : World} {O B B2 g n d k5 : Nat} {us ur : Value} {a : Ans} {o : Obj} {x : Tk.Ht} {j5 : Option Addr} (h : SpSt W O B B2 (.slice (some ⟨g, 0, none⟩) a.hits.length d) us ur a) (hn : n = a.hits.length)
    (ho : w5.ownsRow 0 43 3 (.slice j5 (n + 1) k5) (n + 1) (Tk.fl a.hits ++ [.int .i64 x.1, .int .u64 x.2.1, .int .u64 x.2.2])) (g5 : (W.drew.alloc o).grownBy w5 (some g)) :
    RdA (w5.setCell ⟨O, 0, none⟩ (.slice j5 (n + 1) k5)) (.slice j5 (n + 1) k5) us ur (spo2 a x) ∧ Tk.Kp (fun b => b = g ∨ b = O) W (w5.setCell ⟨O, 0, none⟩ (.slice j5 (n + 1) k5)) ∧
    (w5.setCell ⟨O, 0, none⟩ (.slice j5 (n + 1) k5)).cell? ⟨O, 0, none⟩ = some (.slice j5 (n + 1) k5) ∧ (w5.setCell ⟨O, 0, none⟩ (.slice j5 (n + 1) k5)).cell? ⟨O, 1, none⟩ = some us ∧ (w5.setCell ⟨O, 0, none⟩ (.slice j5 (n + 1) k5)).cell? ⟨O, 2, none⟩ = some ur := by
  subst hn
  have gd : Gb W W.drew := ⟨rfl, rfl, rfl, Nat.le_refl _, fun _ _ => rfl⟩
  have gV : Gb W (W.drew.alloc o) := gb_alloc gd o
  have hV : (W.drew.alloc o).ownsRow B 43 3 (.slice (some ⟨g, 0, none⟩) a.hits.length d) a.hits.length (Tk.fl a.hits) := World.ownsRow.alloc (World.ownsRow.drew h.oh) o
  obtain ⟨_, q2, q3, _, q5, q6⟩ := h.grow (o := 0) (v5 := .slice j5 (a.hits.length + 1) k5) gV hV (fun k hk => h.no k (.inl hk)) g5
  have hgO : some O ≠ some g := fun e => by injection e with e; have := h.no g (.inl rfl); omega
  have c5 : ∀ {p : Nat} {v : Value}, W.cell? ⟨O, p, none⟩ = some v → w5.cell? ⟨O, p, none⟩ = some v := fun {p v} hc => (Tk.Kp.grown g5).cell (gb_keeps gV hc) hgO
  have o6 := q6 (by decide) ho
  have oH : OwnH (w5.setCell ⟨O, 0, none⟩ (.slice j5 (a.hits.length + 1) k5)) 0 (.slice j5 (a.hits.length + 1) k5) (spo2 a x).hits := by
    unfold OwnH Go.Proofs.YtdmdjmliggjbjaaGreat.spo2
    dsimp only
    rw [List.length_append, List.length_singleton, Tk.fl_app, Tk.fl_one]
    exact o6
  refine ⟨⟨oH.rd, (q2 (by decide)).rd, (q3 (by decide) (by decide)).rd⟩, q5.mono (fun k _ e => e.imp (fun e => by injection e) id), World.cell?_setCell_same _ _ _ (c5 h.b0), set_off (c5 h.b1) (by decide), set_off (c5 h.b2) (by decide)⟩
/-- An id that stands twice: what is there then. -/
theorem spo3_rd {W w5 : World} {O B B2 n d k5 : Nat} {uh us : Value} {a : Ans} {h5 : Option Addr} {id : Int} {xs : List Value} {j5 : Option Addr} (h : SpSt W O B B2 uh us (.slice h5 a.rest.length d) a) (hn : n = a.rest.length)
    (hx : W.ownsRow B 48 6 (.slice h5 a.rest.length d) a.rest.length xs ∧ ∀ i (hi' : i < a.rest.length), ∃ vl vh vi, xs[i * 6]? = some (.int .i64 a.rest[i].S) ∧ xs[i * 6 + 1]? = some vl ∧ xs[i * 6 + 2]? = some vh ∧ xs[i * 6 + 3]? = some (.int .u64 (hi a.rest[i].R)) ∧ xs[i * 6 + 4]? = some (.int .u64 (lo a.rest[i].R)) ∧ xs[i * 6 + 5]? = some vi ∧ Own W B2 vl a.rest[i].L ∧ Own W B2 vh a.rest[i].H ∧ Own W B2 vi a.rest[i].I)
    (ho : w5.ownsRow 0 48 6 (.slice j5 (n + 1) k5) (n + 1) (xs ++ [.int .i64 1, .slice none 0 0, .slice none 0 0, .int .u64 0, .int .u64 0, .slice (some ⟨W.heap.size, 0, none⟩) 1 1]))
    (g5 : ((W.drew.alloc (.cells #[.int .i64 id] 3)).alloc (.cells #[.int .i64 1, .slice none 0 0, .slice none 0 0, .int .u64 0, .int .u64 0, .slice (some ⟨W.heap.size, 0, none⟩) 1 1] 48)).grownBy w5 (Value.slice h5 n d).ownBlock) :
    RdA (w5.setCell ⟨O, 2, none⟩ (.slice j5 (n + 1) k5)) uh us (.slice j5 (n + 1) k5) (spo3 a id) ∧ Tk.Kp (fun b => some b = (Value.slice h5 n d).ownBlock ∨ b = O) W (w5.setCell ⟨O, 2, none⟩ (.slice j5 (n + 1) k5)) ∧
    (w5.setCell ⟨O, 2, none⟩ (.slice j5 (n + 1) k5)).cell? ⟨O, 0, none⟩ = some uh ∧ (w5.setCell ⟨O, 2, none⟩ (.slice j5 (n + 1) k5)).cell? ⟨O, 1, none⟩ = some us ∧ (w5.setCell ⟨O, 2, none⟩ (.slice j5 (n + 1) k5)).cell? ⟨O, 2, none⟩ = some (.slice j5 (n + 1) k5) := by
  subst hn
  have gd : Gb W W.drew := ⟨rfl, rfl, rfl, Nat.le_refl _, fun _ _ => rfl⟩
  obtain ⟨V, hV⟩ : ∃ V, V = (W.drew.alloc (.cells #[.int .i64 id] 3)).alloc (.cells #[.int .i64 1, .slice none 0 0, .slice none 0 0, .int .u64 0, .int .u64 0, .slice (some ⟨W.heap.size, 0, none⟩) 1 1] 48) := ⟨_, rfl⟩
  have gV : Gb W V := by rw [hV]; exact gb_alloc (gb_alloc gd _) _
  rw [← hV] at g5
  have oV : V.ownsRow B 48 6 (.slice h5 a.rest.length d) a.rest.length xs := by rw [hV]; exact World.ownsRow.alloc (World.ownsRow.alloc (World.ownsRow.drew hx.1) _) _
  obtain ⟨q1, q2, _, q4, q5, q6⟩ := h.grow (o := 2) (v5 := .slice j5 (a.rest.length + 1) k5) gV oV (fun k hk => h.no k (.inr (.inr hk))) g5
  have hgO : some O ≠ (Value.slice h5 a.rest.length d).ownBlock := fun e => by have := h.no O (.inr (.inr e.symm)); omega
  have c5 : ∀ {p : Nat} {v : Value}, W.cell? ⟨O, p, none⟩ = some v → w5.cell? ⟨O, p, none⟩ = some v := fun {p v} hc => (Tk.Kp.grown g5).cell (gb_keeps gV hc) hgO
  have o6 := q6 (by decide) ho
  have new : Own V 0 (.slice (some ⟨W.heap.size, 0, none⟩) 1 1) [id] := by
    refine ⟨by simp, .inr ⟨W.heap.size, 1, #[.int .i64 id], rfl, Nat.zero_le _, ?_, Nat.le_refl _, by unfold maxLen; omega, rfl, rfl⟩⟩
    rw [hV]
    exact old_blk (gb_alloc (Below.refl _ _) _) (World.alloc_heap_new W.drew (.cells #[.int .i64 id] 3))
  have oL : OwnL (w5.setCell ⟨O, 2, none⟩ (.slice j5 (a.rest.length + 1) k5)) 0 0 (.slice j5 (a.rest.length + 1) k5) (spo3 a id).rest := by
    refine OwnL.snoc (xs := xs) (r := ⟨1, [], [], 0, [id]⟩) (vl := .slice none 0 0) (vh := .slice none 0 0) (vi := .slice (some ⟨W.heap.size, 0, none⟩) 1 1) (fun i hi' => ?_) hx.1.1 (show World.ownsRow _ 0 _ 6 _ _ (xs ++ [.int .i64 1, .slice none 0 0, .slice none 0 0, .int .u64 (hi 0), .int .u64 (lo 0), _]) by rw [hi0, lo0]; exact o6) (own_nil _ _) (own_nil _ _) (q4 (by decide) new)
    obtain ⟨vl, vh, vi, e0, e1, e2, e3, e4, e5, o1, o2, o3⟩ := hx.2 i hi'
    exact ⟨vl, vh, vi, e0, e1, e2, e3, e4, e5, (q4 (by decide) (o1.gb gV)).mono (Nat.zero_le _), (q4 (by decide) (o2.gb gV)).mono (Nat.zero_le _), (q4 (by decide) (o3.gb gV)).mono (Nat.zero_le _)⟩
  exact ⟨⟨(q1 (by decide)).rd, (q2 (by decide)).rd, oL.rd⟩, q5, set_off (c5 h.b0) (by decide), set_off (c5 h.b1) (by decide), World.cell?_setCell_same _ _ _ (c5 h.b2)⟩
set_option maxRecDepth 100000 in
set_option maxHeartbeats 4000000 in
theorem spoilt_law {w : World} {v u vh vs vr : Value} {rs : List Rw} {q : List Int} {a : Ans} {k at0 : Int} (hv : RdW w v rs) (hu : RdI w u q) (ha : RdAN w vh vs vr a) (hin : AnsIn a) (hwf : Wf rs) (hq : q.length ≤ reachBytes) (hat : at0 ≤ 9223372036854775807) :
    Calls Tryz.prog 5 #[v, u, .int .i64 k, .agg #[vh, vs, vr], .int .i64 at0] w fun e w' => e = .returned (.bool true) ∧ Gb w w' := by
  obtain ⟨W0, hW0⟩ : ∃ W0, W0 = w.alloc (.cells #[vh, vs, vr] 27) := ⟨_, rfl⟩
  have G0 : Hid (Gb w W0) := by unfold Hid; rw [hW0]; exact gb_alloc (Below.refl _ _) _
  have cb := big_c (hv.gb G0.out) (hu.gb G0.out) (ha.rd.gb G0.out) (by have := hwf.1; omega) hq hin
  have V : Hid (RdW w v rs) := hv
  have U : Hid (RdI w u q) := hu
  have A : Hid (RdAN w vh vs vr a) := ha
  have HI : Hid (AnsIn a ∧ Wf rs) := ⟨hin, hwf⟩
  have BX : Hid (W0.cell? ⟨w.heap.size, 0, none⟩ = some vh ∧ W0.cell? ⟨w.heap.size, 1, none⟩ = some vs ∧ W0.cell? ⟨w.heap.size, 2, none⟩ = some vr) := by
    unfold Hid; rw [hW0]; exact ⟨by simp [go_sem], by simp [go_sem], by simp [go_sem]⟩
  obtain ⟨x1, y1, rfl, z1⟩ := hv
  obtain ⟨x2, y2, rfl, z2⟩ := hu
  obtain ⟨x3, y3, evh, z3⟩ := ha.hits.form
  obtain ⟨x4, y4, evs, z4⟩ := ha.seen
  obtain ⟨x5, y5, evr, z5⟩ := ha.rest
  subst evh; subst evs; subst evr
  clear z1 z2 z3 z4 z5 ha hin hwf hq
  obtain ⟨n1, hn1⟩ : ∃ n, n = rs.length := ⟨_, rfl⟩
  obtain ⟨n3, hn3⟩ : ∃ n, n = a.hits.length := ⟨_, rfl⟩
  obtain ⟨n4, hn4⟩ : ∃ n, n = a.seen.length := ⟨_, rfl⟩
  obtain ⟨n5, hn5⟩ : ∃ n, n = a.rest.length := ⟨_, rfl⟩
  have NN : Hid (n3 = a.hits.length ∧ n4 = a.seen.length ∧ n5 = a.rest.length ∧ n1 = rs.length) := ⟨hn3, hn4, hn5, hn1⟩
  rw [← hn3, ← hn4, ← hn5] at A hW0 BX cb ⊢
  rw [← hn1] at V cb ⊢
  clear hn3 hn4 hn5 hn1
  generalize hn2 : q.length = n2 at *
  clear hn2
  go_enter Tryz.func5, Tryz.ntmps5
  go_wp2_with fail
  rw [← hW0]
  go_fit cb
  rintro e w1 ⟨⟨b, rfl, hb⟩, g1⟩
  have G1 : Hid (Gb W0 w1) := g1
  have GW : Hid (Gb w w1) := gb_trans G0.out g1
  clear cb g1 hW0
  cases b with
  | true =>
    go_wp2
    go_ret
    exact ⟨rfl, GW.out⟩
  | false =>
    have SM : Hid (Small rs q a) := hb rfl
    have IA : Hid (InA a) := SM.out.inA HI.out.1
    have c1 := Sound_c (k := k) (V.out.gb GW.out) (U.out.gb GW.out) (A.out.rd.gb GW.out) IA.out HI.out.2
    obtain ⟨b0, b1, b2⟩ := BX.out
    have b0 := gb_keeps G1.out b0
    have b1 := gb_keeps G1.out b1
    have b2 := gb_keeps G1.out b2
    clear hb
    go_wp2_with fail
    go_fit c1
    rintro e w2 ⟨s, rfl, g2, hs1, hs2⟩
    have HS : Hid (s = true → topE rs q k = 0 ∧ SoundQ rs q k.toNat a) := fun e => by
      by_cases ht : topE rs q k = 0
      · exact ⟨ht, (hs2 ht).1 e⟩
      · rw [hs1 ht] at e; cases e
    have HF : Hid (topE rs q k ≠ 0 → s = false) := hs1
    have G2 : Hid (Gb W0 w2) := gb_trans G1.out g2
    have GW2 : Hid (Gb w w2) := gb_trans G0.out G2.out
    have ca := awake_c w2
    clear c1 g2 hs1 hs2 b0 b1 b2
    cases s with
    | false =>
      obtain ⟨x, hx⟩ : ∃ x, x = topE rs q k := ⟨_, rfl⟩
      rw [← hx]
      clear hx
      by_cases hx0 : x = 0
      · subst hx0
        go_wp2_with fail
        go_fit ca
        rintro e w8 ⟨rfl, g8⟩
        clear ca
        go_wp2
        go_ret
        exact ⟨rfl, gb_trans GW2.out g8⟩
      · have hx1 : (x != 0) = true := by simpa using hx0
        clear hx0
        go_wp2_with fail
        go_fit ca
        rintro e w8 ⟨rfl, g8⟩
        clear ca
        go_wp2
        go_ret
        exact ⟨rfl, gb_trans GW2.out g8⟩
    | true =>
      obtain ⟨htop, hsq⟩ := HS.out rfl
      have TP : Hid (topE rs q k = 0) := htop
      have SQ : Hid (SoundQ rs q k.toNat a) := hsq
      rw [htop]
      clear htop hsq HS HF
      by_cases hneg : at0 < 0
      · go_wp2_with fail
        go_fit ca
        rintro e w8 ⟨rfl, g8⟩
        clear ca
        go_wp2
        go_ret
        exact ⟨rfl, gb_trans GW2.out g8⟩
      · clear ca
        obtain ⟨i, hi'⟩ : ∃ i : Nat, at0 = (i : Int) := ⟨at0.toNat, by omega⟩
        subst hi'
        have hib : i ≤ 9223372036854775807 := by omega
        have hin0 : ¬ (i : Int) < 0 := by omega
        clear hneg hat
        go_wp2
        go_loopw [13] (fun nv W => ∃ n : Nat, nv = .int .i64 (n : Int) ∧ n ≤ 4 ∧ Hid (Gb W0 W)) (fun nv _ => 4 - (intOf nv).toNat)
        case atStart => exact ⟨0, rfl, by decide, G2⟩
        case round =>
          obtain ⟨n, rfl, hn, X⟩ := hrel
          have GX : Hid (Gb w wr) := gb_trans G0.out X.out
          obtain ⟨b0, b1, b2⟩ := BX.out
          have b0 := gb_keeps X.out b0
          have b1 := gb_keeps X.out b1
          have b2 := gb_keeps X.out b2
          by_cases hn4 : n = 4
          · subst hn4
            have ca := awake_c wr
            clear b0 b1 b2
            go_wp2_with fail
            go_fit ca
            rintro e w8 ⟨rfl, g8⟩
            clear ca
            go_wp2
            go_ret
            exact ⟨rfl, gb_trans GX.out g8⟩
          have cl := lent_c (A.out.gb GX.out) IA.out (fun r hr => by have := SM.out.vec r hr; omega)
          have hnlt : (n : Int) < 4 := by omega
          have FIN : Hid (∀ (W : World) (uh us ur : Value) (a' : Ans), Gb w W → RdA W uh us ur a' → InA a' → ¬ SoundQ rs q k.toNat a' → Calls Tryz.prog 9 #[.slice x1 n1 y1, .slice x2 n2 y2, .int .i64 k, .agg #[uh, us, ur]] W fun e w' => e = .returned (.tuple #[.bool false, .int .i64 0]) ∧ Gb W w') := by
            intro W uh us ur a' g r ia ns
            refine (Sound_c (k := k) (V.out.gb g) (U.out.gb g) r ia HI.out.2).mono ?_
            rintro e w' ⟨b, rfl, g', _, hb⟩
            have eb : b = false := by
              cases b with
              | false => rfl
              | true => exact absurd ((hb TP.out).1 rfl) ns
            rw [eb, TP.out]
            exact ⟨rfl, g'⟩
          go_wp2_with fail
          go_fit cl
          intro e w3 hlo
          obtain ⟨uh, us, ur, B, B2, rfl, g3, hB, SP⟩ := SpSt.new hlo
          obtain ⟨h3, d3, euh⟩ := row_fm SP.oh
          obtain ⟨h4, d4, eus⟩ := row_fm SP.os
          obtain ⟨h5, d5, eur⟩ : ∃ x c, ur = .slice x a.rest.length c := by
            obtain ⟨xs, ho, _⟩ := SP.or
            exact row_fm ho
          subst euh; subst eus; subst eur
          rw [← NN.out.1, ← NN.out.2.1, ← NN.out.2.2.1] at SP ⊢
          have G3 : Hid (Gb W0 w3) := gb_trans X.out g3
          clear cl hlo g3 b0 b1 b2
          obtain ⟨W4, hW4⟩ : ∃ W4, W4 = w3.alloc (.cells #[.slice h3 n3 d3, .slice h4 n4 d4, .slice h5 n5 d5] 27) := ⟨_, rfl⟩
          rw [← hW4] at SP
          have S4 : Hid (SpSt W4 w3.heap.size B B2 (.slice h3 n3 d3) (.slice h4 n4 d4) (.slice h5 n5 d5) a) := SP
          have G4 : Hid (Gb W0 W4) := by unfold Hid; rw [hW4]; exact gb_alloc G3.out _
          have GW4 : Hid (Gb w W4) := gb_trans G0.out G4.out
          have HB : Hid (w.heap.size ≤ B ∧ W0.heap.size ≤ B ∧ W0.heap.size ≤ w3.heap.size ∧ wr.heap.size ≤ B) := ⟨by have := GX.out.size; omega, by have := X.out.size; omega, G3.out.size, hB⟩
          have c0 := SP.b0
          have c1 := SP.b1
          have c2 := SP.b2
          rw [hW4] at c0 c1 c2
          clear SP hB
          rcases (by omega : n = 0 ∨ n = 1 ∨ n = 2 ∨ n = 3) with rfl | rfl | rfl | rfl
          · by_cases hlt : i < n4
            · have hli : (i : Int) < (n4 : Int) := by omega
              go_wp2_with fail
              rw [← hW4]
              clear hW4
              clear c0 c1 c2
              have c0 := S4.out.b0
              have c1 := S4.out.b1
              have c2 := S4.out.b2
              have ff := S4.out.f 1
              obtain ⟨i0, hi0, hz0, hz1, hz2⟩ := info_partsI
              rcases S4.out.os.2 with ⟨e, h0⟩ | ⟨g, cap, cur, e, hgB, hh, hle, hmx, hsz, htk⟩
              · exact absurd h0 (by have := NN.out; omega)
              injection e with e1 e2 e3
              subst e1; subst e3
              have hi4 : i < a.seen.length := by have := NN.out; omega
              have S5 : SpSt W4 w3.heap.size B B2 (.slice h3 n3 d3) (.slice (some ⟨g, 0, none⟩) a.seen.length d4) (.slice h5 n5 d5) a := by rw [← NN.out.2.1]; exact S4.out
              have CU := S5.cut hi4
              rw [← NN.out.2.1] at CU
              have CUT : Hid _ := CU
              have hgO : g < w3.heap.size := S5.no g (.inr (.inl rfl))
              obtain ⟨news, hnw⟩ : ∃ news, news = (a.seen.drop (i + 1)).map (Value.int .i64) := ⟨_, rfl⟩
              rw [← hnw] at CUT
              have old : ∀ t, t < n4 → W4.cell? ⟨g, t, none⟩ = some (.int .i64 a.seen[t]!) := fun t ht => by
                obtain ⟨_, _, e1, hc⟩ := S5.os.rd
                obtain ⟨b, o, e2, hc⟩ := hc t (by have := NN.out; omega)
                injection e1 with e1 _ _
                rw [← e1] at e2
                injection e2 with e2
                injection e2 with e3 e4
                subst e3
                subst e4
                rw [Nat.zero_add] at hc
                exact hc
              have nl : news.length = n4 - (i + 1) := by rw [hnw, List.length_map, List.length_drop]; have := NN.out; omega
              have s1 : Hid (news.length = (n4 - (i + 1)) * 1) := by unfold Hid; rw [nl, Nat.mul_one]
              have s2 : Hid (∀ u ∈ news, u.oneCell' = true) := by unfold Hid; rw [hnw]; exact ints_oneCell .i64 _
              have s3 : Hid (∀ j, j < news.length → (W4.drew.cell? ⟨g, 0 + i * 1 + j, none⟩).isSome = true ∧ W4.drew.frozen? ⟨g, 0 + i * 1 + j, none⟩ = false) := by
                intro j hj
                rw [nl] at hj
                refine ⟨?_, ?_⟩
                · show (W4.cell? _).isSome = true
                  rw [Nat.zero_add, Nat.mul_one, old (i + j) (by omega)]; rfl
                · simp [World.frozen?, show W4.drew.heap[g]? = _ from hh]
              obtain ⟨A0, hA0, hnews⟩ : ∃ A0 : Addr, (if d4 = i + 1 then some (⟨g, 0, none⟩ : Addr) else some ⟨g, i + 1, none⟩) = some A0 ∧ Hid (∀ j u, news[j]? = some u → W4.drew.cell? (A0.add j) = some u) := by
                by_cases hcc : d4 = i + 1
                · refine ⟨⟨g, 0, none⟩, by simp [hcc], fun j u hu => ?_⟩
                  have h0 : news.length = 0 := by rw [nl]; have := NN.out; omega
                  rw [List.length_eq_zero_iff.1 h0] at hu
                  simp at hu
                · refine ⟨⟨g, i + 1, none⟩, by simp [hcc], fun j u hu => ?_⟩
                  have hj : j < news.length := (List.getElem?_eq_some_iff.1 hu).1
                  rw [nl] at hj
                  rw [hnw, List.getElem?_map, List.getElem?_drop, List.getElem?_eq_getElem (by have := NN.out; omega)] at hu
                  simp only [Option.map_some] at hu
                  rw [Addr.add_lit, ← hu]
                  show W4.cell? _ = _
                  rw [old (i + 1 + j) (by omega), getElem!_pos a.seen (i + 1 + j) (by have := NN.out; omega)]
              have n4d : n4 ≤ d4 := by have := NN.out; omega
              have d4b : d4 ≤ 9223372036854775807 := by unfold maxLen at hmx; omega
              have i4b : i ≤ 100000 := by have := IA.out.ids; unfold allIds at this; rw [List.length_append] at this; omega
              have hic : i ≤ d4 := by omega
              have hwr : IntKind.i64.wrap ((i : Int) + 1) = (i : Int) + 1 := by rw [IntKind.wrap_i64]; omega
              have hp0 : (0 : Int) ≤ (i : Int) + 1 := by omega
              have hp1 : (i : Int) + 1 ≤ (n4 : Int) := by omega
              have hp2 : ((i : Int) + 1).toNat = i + 1 := by omega
              have hp3 : (n4 : Int) ≤ (d4 : Int) := by omega
              have hp4 : (i : Int) ≤ (d4 : Int) := by omega
              have k1 : (W4.drew.setCells g i news).cell? ⟨w3.heap.size, 1, none⟩ = some (.slice (some ⟨g, 0, none⟩) n4 d4) := (World.cell?_setCells_out g _ _ _ _ (fun e _ => by dsimp only at e; omega)).trans c1
              have k0 : (W4.drew.setCells g i news).cell? ⟨w3.heap.size, 0, none⟩ = some (.slice h3 n3 d3) := (World.cell?_setCells_out g _ _ _ _ (fun e _ => by dsimp only at e; omega)).trans c0
              have k2 : (W4.drew.setCells g i news).cell? ⟨w3.heap.size, 2, none⟩ = some (.slice h5 n5 d5) := (World.cell?_setCells_out g _ _ _ _ (fun e _ => by dsimp only at e; omega)).trans c2
              have KK : Hid ((W4.drew.setCells g i news).cell? ⟨w3.heap.size, 0, none⟩ = some (.slice h3 n3 d3) ∧ (W4.drew.setCells g i news).cell? ⟨w3.heap.size, 1, none⟩ = some (.slice (some ⟨g, 0, none⟩) n4 d4) ∧ (W4.drew.setCells g i news).cell? ⟨w3.heap.size, 2, none⟩ = some (.slice h5 n5 d5)) := ⟨k0, k1, k2⟩
              have G5 : Hid (Gb W0 ((W4.drew.setCells g i news).setCell ⟨w3.heap.size, 1, none⟩ (.slice (some ⟨g, 0, none⟩) (i + (n4 - (i + 1))) d4))) := gb_kp G4.out CUT.out.2 (fun b e => by have := HB.out; omega)
              have NSq : Hid (InA (spo0 a i) ∧ ¬ SoundQ rs q k.toNat (spo0 a i)) := ⟨IA.out.spo0 hi4, spo0_no SQ.out hi4⟩
              clear k0 k2
              have e1 : (W4.drew.setCells g i news).frozen? ⟨w3.heap.size, 1, none⟩ = false := (World.frozen?_setCells g _ _ _ _).trans ff
              clear old nl hh hsz htk hle hmx hgB hnw S5 CU hi4 hgO e2 n4d i4b d4b
              go_region_law (refine step_append_room rfl (.tmp 59) (.tmp 64) 23 rfl 3 i0 1 Tryz.underlying23 hi0 hz1 g 0 i d4 (by simp [Act.eval, Act.put]) A0 (n4 - (i + 1)) (d4 - (i + 1)) news (by simp [Act.eval, Act.put]) s1.out hnews.out s2.out (by omega) s3.out ?_)
              all_goals
                clear k1 e1 c0 c1 c2 ff hA0 hnews s1 s2 s3 hwr hp0 hp1 hp2 hp3 hp4 hic hi0 hz0 hz1 hz2
                have d0 := set_off (o := 1) (u := .slice (some ⟨g, 0, none⟩) (i + (n4 - (i + 1))) d4) KK.out.1 (by decide)
                have d1 := World.cell?_setCell_same _ _ (.slice (some ⟨g, 0, none⟩) (i + (n4 - (i + 1))) d4) KK.out.2.1
                have d2 := set_off (o := 1) (u := .slice (some ⟨g, 0, none⟩) (i + (n4 - (i + 1))) d4) KK.out.2.2 (by decide)
                have cf := FIN.out _ _ _ _ (spo0 a i) (gb_trans G0.out G5.out) CUT.out.1 NSq.out.1 NSq.out.2
                clear KK CUT
                generalize World.setCell (W4.drew.setCells g i news) _ _ = W5 at *
                go_wp2_with fail
                go_fit cf
                rintro e w6 ⟨rfl, g6⟩
                have G6 : Hid (Gb W0 w6) := gb_trans G5.out g6
                clear cf d0 d1 d2 g6
                go_wp2
                go_roundw
                case rel => exact ⟨1, by first | rfl | go_num, by omega, G6.out⟩
                case measure => simp [intOf]
            · have hli : ¬ (i : Int) < (n4 : Int) := by omega
              go_wp2
              go_roundw
              case rel => exact ⟨1, by first | rfl | go_num, by omega, by rw [← hW4]; exact G4.out⟩
              case measure => simp [intOf]
          · by_cases hlt : i < n3
            · have hli : (i : Int) < (n3 : Int) := by omega
              go_wp2_with fail
              rw [← hW4]
              clear hW4 c0 c1 c2
              have c0 := S4.out.b0
              have c1 := S4.out.b1
              have c2 := S4.out.b2
              rcases S4.out.oh.2 with ⟨e, h0⟩ | ⟨g, cap, cur, e, hgB, hh, hle, hmx, hsz, htk⟩
              · exact absurd h0 (by have := NN.out; omega)
              injection e with e1 e2 e3
              subst e1; subst e3
              have hi4 : i < a.hits.length := by have := NN.out; omega
              have S5 : SpSt W4 w3.heap.size B B2 (.slice (some ⟨g, 0, none⟩) a.hits.length d3) (.slice h4 n4 d4) (.slice h5 n5 d5) a := by rw [← NN.out.1]; exact S4.out
              have S5H : Hid (SpSt W4 w3.heap.size B B2 (.slice (some ⟨g, 0, none⟩) a.hits.length d3) (.slice h4 n4 d4) (.slice h5 n5 d5) a) := S5
              have hgO : g < w3.heap.size := S5.no g (.inl rfl)
              have LI := Tk.own_lies (g := g) (n := a.hits.length) (cap := d3) S5.oh.own
              obtain ⟨m0, m1, m2⟩ := LI i (by simpa using hi4)
              simp only [Nat.zero_add] at m0 m1 m2
              have mf : W4.frozen? ⟨g, i * 3 + 2, none⟩ = false := by simp [World.frozen?, hh]
              obtain ⟨z, hz⟩ : ∃ z, z = a.hits[i]!.2.2 := ⟨_, rfl⟩
              have HZ : Hid (z = a.hits[i]!.2.2 ∧ i < a.hits.length ∧ W0.heap.size ≤ g ∧ g < w3.heap.size) := ⟨hz, hi4, by have := HB.out; omega, hgO⟩
              have m2' : W4.cell? ⟨g, i * 3 + 2, none⟩ = some (.int .u64 z) := by rw [hz]; exact m2
              clear m0 m1 m2 LI hh hsz htk hle hmx hgB S5 hi4 hgO e2 hz
              go_region
              all_goals
                have HT := S5H.out.hit (z := bits BinOp.xor IntKind.u64 z 1) HZ.out.2.1
                rw [← NN.out.1] at HT
                have HTW : RdA (W4.setCell ⟨g, i * 3 + 1 + 1, none⟩ (.int .u64 (bits BinOp.xor IntKind.u64 z 1))).drew (.slice (some ⟨g, 0, none⟩) n3 d3) (.slice h4 n4 d4) (.slice h5 n5 d5) (spo1 a i (a.hits[i]!.1, a.hits[i]!.2.1, bits BinOp.xor IntKind.u64 z 1)) ∧ Tk.Kp (fun b => b = g) W4 (W4.setCell ⟨g, i * 3 + 1 + 1, none⟩ (.int .u64 (bits BinOp.xor IntKind.u64 z 1))).drew := HT
                have d0 := HTW.2.cell c0 (by have := HZ.out; dsimp only; omega)
                have d1 := HTW.2.cell c1 (by have := HZ.out; dsimp only; omega)
                have d2 := HTW.2.cell c2 (by have := HZ.out; dsimp only; omega)
                have G5 : Hid (Gb W0 (W4.setCell ⟨g, i * 3 + 1 + 1, none⟩ (.int .u64 (bits BinOp.xor IntKind.u64 z 1))).drew) := gb_kp G4.out HTW.2 (fun b e => by have := HZ.out; omega)
                have cf := FIN.out _ _ _ _ _ (gb_trans G0.out G5.out) HTW.1 IA.out.spo1 (spo1_no (topE_zero.1 TP.out).1 SQ.out HZ.out.2.1 (fun e => by
                  have hw := snd_word SQ.out HZ.out.2.1
                  have e2 := congrArg (fun x : Tk.Ht => x.2.2) e
                  dsimp only at e2
                  rw [← HZ.out.1] at hw e2
                  exact xor_ne hw.1 hw.2 e2))
                clear HT HTW c0 c1 c2 m2' mf S5H
                generalize World.drew (W4.setCell ⟨g, i * 3 + 1 + 1, none⟩ _) = W5 at *
                go_wp2_with fail
                go_fit cf
                rintro e w6 ⟨rfl, g6⟩
                have G6 : Hid (Gb W0 w6) := gb_trans G5.out g6
                clear cf d0 d1 d2 g6
                go_wp2
                go_roundw
                case rel => exact ⟨2, by first | rfl | go_num, by omega, G6.out⟩
                case measure => simp [intOf]
            · have hli : ¬ (i : Int) < (n3 : Int) := by omega
              go_wp2
              go_roundw
              case rel => exact ⟨2, by first | rfl | go_num, by omega, by rw [← hW4]; exact G4.out⟩
              case measure => simp [intOf]
          · by_cases hlt : i < n3
            · have hli : (i : Int) < (n3 : Int) := by omega
              go_wp2_with fail
              rw [← hW4]
              clear hW4 c0 c1 c2
              have c0 := S4.out.b0
              have c1 := S4.out.b1
              have c2 := S4.out.b2
              have ff := S4.out.f 0
              obtain ⟨i0, hi0, hz0, hz1, hz2⟩ := info_partsH
              rcases S4.out.oh.2 with ⟨e, h0⟩ | ⟨g, cap, cur, e, hgB, hh, hle, hmx, hsz, htk⟩
              · exact absurd h0 (by have := NN.out; omega)
              injection e with e1 e2 e3
              subst e1; subst e3
              have hi4 : i < a.hits.length := by have := NN.out; omega
              have S5 : SpSt W4 w3.heap.size B B2 (.slice (some ⟨g, 0, none⟩) a.hits.length d3) (.slice h4 n4 d4) (.slice h5 n5 d5) a := by rw [← NN.out.1]; exact S4.out
              have hgO : g < w3.heap.size := S5.no g (.inl rfl)
              have LI := Tk.own_lies (g := g) (n := a.hits.length) (cap := d3) S5.oh.own
              obtain ⟨m0, m1, m2⟩ := LI i (by simpa using hi4)
              simp only [Nat.zero_add] at m0 m1 m2
              obtain ⟨x, hx⟩ : ∃ x, x = a.hits[i]! := ⟨_, rfl⟩
              have ex : (a.hits.toArray.toList)[i]! = x := by rw [hx]
              rw [ex] at m0 m1 m2
              have HZ : Hid (i < a.hits.length ∧ W0.heap.size ≤ g ∧ g < w3.heap.size ∧ a.hits.length = n3 ∧ a.hits.length ≤ 16384) := ⟨hi4, by have := HB.out; omega, hgO, NN.out.1.symm, SM.out.hits⟩
              have OHH : Hid (W4.ownsRow 0 43 3 (.slice (some ⟨g, 0, none⟩) n3 d3) n3 (Tk.fl a.hits)) := by
                have h1 := row_mono S5.oh (Nat.zero_le B)
                rw [← NN.out.1] at h1
                exact h1
              have n3b : n3 ≤ 16384 := by have := SM.out.hits; have := NN.out; omega
              have VK : Hid (∀ (o : Obj) (w5 : World), (W4.drew.alloc o).grownBy w5 (some g) → w5.cell? ⟨w3.heap.size, 0, none⟩ = some (.slice (some ⟨g, 0, none⟩) n3 d3) ∧ w5.frozen? ⟨w3.heap.size, 0, none⟩ = false) := fun o w5 g5 => by
                have gd : Gb W4 W4.drew := ⟨rfl, rfl, rfl, Nat.le_refl _, fun _ _ => rfl⟩
                have ga : Gb W4 (W4.drew.alloc o) := gb_alloc gd o
                exact var_kept g5 (fun e => by injection e with e; omega) (gb_keeps ga c0) ((ga.frozen (p := ⟨w3.heap.size, 0, none⟩) (cell_lt c0)).trans ff)
              have S5H : Hid (SpSt W4 w3.heap.size B B2 (.slice (some ⟨g, 0, none⟩) a.hits.length d3) (.slice h4 n4 d4) (.slice h5 n5 d5) a) := S5
              have HX : Hid (x = a.hits[i]!) := hx
              have hlO := S4.out.lt
              have hlg : g < W4.heap.size := by omega
              clear LI hh hsz htk hle hmx hgB S5 hi4 hgO e2 hx ex
              go_region_law (refine step_append_ownC rfl (.tmp 102) (.tmp 108) 24 rfl 0 43 i0 (.agg #[.int .i64 0, .int .u64 0, .int .u64 0]) 3 24 Tryz.underlying24 hi0 hz0 hz1 hz2 rfl (by decide) (.slice (some ⟨g, 0, none⟩) n3 d3) n3 (Tk.fl a.hits) (by simp [Act.eval]) (World.ownsRow.alloc (World.ownsRow.drew OHH.out) _) ⟨W4.heap.size, 0, none⟩ 1 1 [.int .i64 x.1, .int .u64 x.2.1, .int .u64 x.2.2] (by simp [Act.eval]) rfl (three_cellsC W4.drew _ _ _ _) (by simp [Value.oneCell']) (by simp only [maxLen]; omega) (by omega) (Nat.zero_le _) ?_; intro j5 k5 w5 hown5 hgrow5; have vk := VK.out _ _ hgrow5; have vk0 := vk.1; have vkf := vk.2)
              all_goals
                obtain ⟨r5, k6, d0, d1, d2⟩ := spo2_rd S5H.out NN.out.1 hown5 hgrow5
                have G5 : Hid (Gb W0 (w5.setCell ⟨w3.heap.size, 0, none⟩ (.slice j5 (n3 + 1) k5))) := gb_kp G4.out k6 (fun b e => by have := HZ.out; have := HB.out; omega)
                have cf := FIN.out _ _ _ _ _ (gb_trans G0.out G5.out) r5 (IA.out.spo2 HZ.out.2.2.2.2) (spo2_no (topE_zero.1 TP.out).1 SQ.out)
                clear r5 k6 hown5 hgrow5 vk vk0 vkf c0 c1 c2 ff m0 m1 m2 hi0 hz0 hz1 hz2 OHH VK S5H HX
                generalize World.setCell w5 _ _ = W5 at *
                go_wp2_with fail
                go_fit cf
                rintro e w6 ⟨rfl, g6⟩
                have G6 : Hid (Gb W0 w6) := gb_trans G5.out g6
                clear cf d0 d1 d2 g6
                go_wp2
                go_roundw
                case rel => exact ⟨3, by first | rfl | go_num, by omega, G6.out⟩
                case measure => simp [intOf]
            · have hli : ¬ (i : Int) < (n3 : Int) := by omega
              go_wp2
              go_roundw
              case rel => exact ⟨3, by first | rfl | go_num, by omega, by rw [← hW4]; exact G4.out⟩
              case measure => simp [intOf]
          · by_cases hlt : i < n1
            · have hli : (i : Int) < (n1 : Int) := by omega
              go_wp2_with fail
              rw [← hW4]
              clear hW4 c0 c1 c2
              have c0 := S4.out.b0
              have c1 := S4.out.b1
              have c2 := S4.out.b2
              have ff := S4.out.f 2
              obtain ⟨i0, hi0, hz0, hz1, hz2⟩ := info_partsG
              have S5H : Hid (SpSt W4 w3.heap.size B B2 (.slice h3 n3 d3) (.slice h4 n4 d4) (.slice h5 a.rest.length d5) a) := by unfold Hid; rw [← NN.out.2.2.1]; exact S4.out
              obtain ⟨xs, hxo, hxc⟩ := S5H.out.or
              have HXS : Hid (W4.ownsRow B 48 6 (.slice h5 a.rest.length d5) a.rest.length xs ∧ ∀ i (hi' : i < a.rest.length), ∃ vl vh vi, xs[i * 6]? = some (.int .i64 a.rest[i].S) ∧ xs[i * 6 + 1]? = some vl ∧ xs[i * 6 + 2]? = some vh ∧ xs[i * 6 + 3]? = some (.int .u64 (hi a.rest[i].R)) ∧ xs[i * 6 + 4]? = some (.int .u64 (lo a.rest[i].R)) ∧ xs[i * 6 + 5]? = some vi ∧ Own W4 B2 vl a.rest[i].L ∧ Own W4 B2 vh a.rest[i].H ∧ Own W4 B2 vi a.rest[i].I) := ⟨hxo, hxc⟩
              have OHH : Hid (W4.ownsRow 0 48 6 (.slice h5 n5 d5) n5 xs) := by
                have h1 := row_mono hxo (Nat.zero_le B)
                rw [← NN.out.2.2.1] at h1
                exact h1
              have n5b : n5 ≤ 16384 := by have := SM.out.rest; have := NN.out; omega
              have OB : Hid (∀ k, (Value.slice h5 n5 d5).ownBlock = some k → W0.heap.size ≤ k ∧ k < w3.heap.size) := fun k hk => ⟨by have hk' := hk; rw [NN.out.2.2.1] at hk'; have h1 := (World.ownsRow.lt hxo k hk').1; have := HB.out; omega, S4.out.no k (.inr (.inr hk))⟩
              have hil : i < rs.length := by have := NN.out; omega
              obtain ⟨_, _, ev, hA⟩ := V.out
              obtain ⟨rb, ro, ru, ea, r1, _, _⟩ := hA i hil
              injection ev with ev1 ev2 ev3
              subst ev1; subst ea
              have r1 := gb_keeps GW4.out r1
              have hlr : rb < W4.heap.size := cell_lt r1
              have KI : Hid (KWf rs[i]!.1) := KWf.of (HI.out.2.2 i hil)
              obtain ⟨id, hid⟩ : ∃ id, id = rs[i]!.1 := ⟨_, rfl⟩
              rw [← hid] at r1 KI
              have VK : Hid (∀ (o o' : Obj) (w5 : World), ((W4.drew.alloc o).alloc o').grownBy w5 (Value.slice h5 n5 d5).ownBlock → w5.cell? ⟨w3.heap.size, 2, none⟩ = some (.slice h5 n5 d5) ∧ w5.frozen? ⟨w3.heap.size, 2, none⟩ = false) := fun o o' w5 g5 => by
                have gd : Gb W4 W4.drew := ⟨rfl, rfl, rfl, Nat.le_refl _, fun _ _ => rfl⟩
                have ga : Gb W4 ((W4.drew.alloc o).alloc o') := gb_alloc (gb_alloc gd o) o'
                exact var_kept g5 (fun e => by have := (OB.out _ e.symm).2; omega) (gb_keeps ga c2) ((ga.frozen (p := ⟨w3.heap.size, 2, none⟩) (cell_lt c2)).trans ff)
              have hlO := S4.out.lt
              clear hxo hxc hA ev2 ev3 hid hil
              go_region_law (refine step_append_ownC rfl (.tmp 121) (.tmp 129) 25 rfl 0 48 i0 (.agg #[.int .i64 0, .slice none 0 0, .slice none 0 0, .int .u64 0, .int .u64 0, .slice none 0 0]) 6 96 Tryz.underlying25 hi0 hz0 hz1 hz2 rfl (by decide) (.slice h5 n5 d5) n5 xs (by simp [Act.eval]) (World.ownsRow.alloc (World.ownsRow.alloc (World.ownsRow.drew OHH.out) _) _) ⟨W4.heap.size + 1, 0, none⟩ 1 1 [.int .i64 1, .slice none 0 0, .slice none 0 0, .int .u64 0, .int .u64 0, .slice (some ⟨W4.heap.size, 0, none⟩) 1 1] (by simp [Act.eval]) rfl (by have := six_cells (W4.drew.alloc (.cells #[.int .i64 id] 3)) (.int .i64 1) (.slice none 0 0) (.slice none 0 0) (.int .u64 0) (.int .u64 0) (.slice (some ⟨W4.heap.size, 0, none⟩) 1 1) 48; rw [World.size_alloc] at this; exact this) (by simp [Value.oneCell']) (by simp only [maxLen]; omega) (by omega) (Nat.zero_le _) ?_; intro j5 k5 w5 hown5 hgrow5; have vk := VK.out _ _ _ hgrow5; have vk0 := vk.1; have vkf := vk.2)
              all_goals
                obtain ⟨r5, k6, d0, d1, d2⟩ := spo3_rd S5H.out NN.out.2.2.1 HXS.out hown5 hgrow5
                have G5 : Hid (Gb W0 (w5.setCell ⟨w3.heap.size, 2, none⟩ (.slice j5 (n5 + 1) k5))) := gb_kp G4.out k6 (fun b e => by
                  rcases e with e | e
                  · exact (OB.out _ e.symm).1
                  · have := HB.out; omega)
                have cf := FIN.out _ _ _ _ _ (gb_trans G0.out G5.out) r5 (IA.out.spo3 ⟨SM.out.ids, SM.out.rest⟩ KI.out) (spo3_no SQ.out)
                clear r5 k6 hown5 hgrow5 vk vk0 vkf c0 c1 c2 ff r1 hi0 hz0 hz1 hz2 OHH VK S5H HXS OB KI
                generalize World.setCell w5 _ _ = W5 at *
                go_wp2_with fail
                go_fit cf
                rintro e w6 ⟨rfl, g6⟩
                have G6 : Hid (Gb W0 w6) := gb_trans G5.out g6
                clear cf d0 d1 d2 g6
                go_wp2
                go_roundw
                case rel => exact ⟨4, by first | rfl | go_num, by omega, G6.out⟩
                case measure => simp [intOf]
            · have hli : ¬ (i : Int) < (n1 : Int) := by omega
              go_wp2
              go_roundw
              case rel => exact ⟨4, by first | rfl | go_num, by omega, by rw [← hW4]; exact G4.out⟩
              case measure => simp [intOf]
end Go.Proofs.YtdmdjmliggjbjaaGreat
