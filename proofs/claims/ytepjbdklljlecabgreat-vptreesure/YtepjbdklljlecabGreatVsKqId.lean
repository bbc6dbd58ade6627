/- (*vptree.part).ids. -/
import Derived.Test.YtepjbdklljlecabGreatVs42
namespace Go.Proofs.YtepjbdklljlecabGreat
open Go.RowKit Go.Sort Go.Maps

/-- The ids gathered so far, in the variable of block ib. -/
structure GI (wB W : World) (fb ib : Nat) (v : Value) (l : List Int) : Prop where
  var : W.heap[ib]? = some (.cells #[v] 27 (0, 0))
  fn : W.cell? ⟨fb, 0, none⟩ = some (.func (.func 134) #[] #[.pointer (some ⟨fb, 0, none⟩), .pointer (some ⟨ib, 0, none⟩)])
  own : Own W wB.heap.size v l
  ibB : wB.heap.size ≤ ib
  ne : fb ≠ ib
  fbT : Ty W fb 73
  gb : Gb wB W
  len : l.length ≤ 512
def GOut (wB W : World) (fb ib : Nat) (l : List Int) (W' : World) : Prop := ∃ v', GI wB W' fb ib v' l ∧ ∀ b, Ty W b 100 → W'.heap[b]? = W.heap[b]?
theorem GI.keep {wB W W' : World} {fb ib : Nat} {v : Value} {l : List Int} (h : GI wB W fb ib v l) (g : Gb W W') : GI wB W' fb ib v l :=
  ⟨by rw [g.block ib (Array.getElem?_eq_some_iff.1 h.var).1]; exact h.var, gb_keeps g h.fn, own_kpI h.own (kpF g) (fun _ _ h => h), h.ibB, h.ne, h.fbT.gb g, gb_trans h.gb g, h.len⟩
theorem GI.next {wB W V W2 : World} {fb ib : Nat} {v v' : Value} {l : List Int} {x : Int} (h : GI wB W fb ib v l) (gV : Gb W V) (ho : W2.ownsRow wB.heap.size 3 1 v' (l.length + 1) (l.map (Value.int .i64) ++ [.int .i64 x])) (hg : V.grownBy W2 v.ownBlock) (hl : l.length + 1 ≤ 512) :
    GI wB (W2.setCell ⟨ib, 0, none⟩ v') fb ib v' (l ++ [x]) ∧ (∀ b, Ty W b 100 → (W2.setCell ⟨ib, 0, none⟩ v').heap[b]? = W.heap[b]?) ∧ W2.heap[ib]? = some (.cells #[v] 27 (0, 0)) := by
  have hV := h.keep gV
  have kp : Tk.Kp (fun b => v.ownBlock = some b) V W2 := ⟨hg.os, hg.tape, hg.output, hg.size, fun k hk hn => hg.block k hk (fun e => hn e.symm)⟩
  have nn : ∀ {b : Nat} {t : TypeId}, Ty V b t → t ≠ 3 → ¬ v.ownBlock = some b := fun ht hne e => ht.ne (own_ty hV.own e) hne rfl
  have tib : Ty V ib 27 := ⟨_, _, hV.var⟩
  have var2 : W2.heap[ib]? = some (.cells #[v] 27 (0, 0)) := by rw [kp.block ib (Array.getElem?_eq_some_iff.1 hV.var).1 (nn tib (by decide))]; exact hV.var
  have k2 : Tk.Kp (fun b => b = ib) W2 (W2.setCell ⟨ib, 0, none⟩ v') := (Tk.Kp.refl (fun b => b = ib) W2).setCell (.inl rfl) v'
  have s0 := hV.gb.size
  have s1 := kp.size
  refine ⟨⟨by simp [World.setCell, Array.getElem?_modify, var2], k2.cell (kp.cell hV.fn (nn hV.fbT (by decide))) h.ne, ?_, h.ibB, h.ne, ?_, ?_, by rw [List.length_append]; exact hl⟩, fun b ht => ?_, var2⟩
  · have e : (l ++ [x]).map (Value.int .i64) = l.map (Value.int .i64) ++ [.int .i64 x] := by rw [List.map_append]; rfl
    unfold Own
    rw [e, List.length_append]
    exact own_kpR ho k2 (fun g hg' => (own_ty ho hg').ne ⟨_, _, var2⟩ (by decide))
  · obtain ⟨c, s, e⟩ := hV.fbT
    exact ⟨c, s, by rw [k2.block fb (by have := (Array.getElem?_eq_some_iff.1 e).1; omega) h.ne, kp.block fb (Array.getElem?_eq_some_iff.1 e).1 (nn ⟨c, s, e⟩ (by decide))]; exact e⟩
  · exact (hV.gb.trans (kp.gr hV.gb.size (fun b e => (h.own.lt b e).1))).trans (k2.gr (by omega) (fun b e => by rw [e]; exact h.ibB))
  · obtain ⟨c, s, e⟩ := ht
    have tV : Ty V b 100 := Ty.gb ⟨c, s, e⟩ gV
    have lt := (Array.getElem?_eq_some_iff.1 e).1
    rw [k2.block b (by have := gV.size; omega) (tV.ne tib (by decide)), kp.block b (by have := gV.size; omega) (nn tV (by decide)), gV.block b lt]
set_option maxHeartbeats 2000000 in
set_option maxRecDepth 100000 in
theorem gat_leaf {w0 wB W : World} {T : Nat → Pt} {N fb ib pb : Nat} {v : Value} {l : List Int} {p : Pt} (h : GI wB W fb ib v l) (hp : MP w0 W T N pb p) (hk : p.kids = none) (g0 : Gb w0 W) (gB : w0.heap.size ≤ wB.heap.size) (hl : l.length + p.rs.length ≤ 512) :
    Calls Tryz.prog 134 #[.pointer (some ⟨pb, 0, none⟩), .pointer (some ⟨fb, 0, none⟩), .pointer (some ⟨ib, 0, none⟩)] W fun e W' => e = .returned (.tuple #[]) ∧ GOut wB W fb ib (l ++ idsOf p.rs) W' := by
  have cI := iscut_mp hp
  rw [hk] at cI
  obtain ⟨vl, vh0, vr, hblk, _, _, _, hrs⟩ := hp
  rw [hk] at hrs
  obtain ⟨hrw, g, o, cap, evr, hcap⟩ := hrs
  subst evr
  have c6 := cell_cur (i := 6) hblk rfl
  obtain ⟨_, cap', e0, hA⟩ := hrw
  injection e0 with e01 e02 e03
  subst e01
  have HA : Hid (∀ i, i < p.rs.length → ∃ u, w0.cell? ⟨g, o + i * 2, none⟩ = some (.int .i64 p.rs[i]!.1) ∧ w0.cell? ⟨g, o + i * 2 + 1, none⟩ = some u ∧ RdI w0 u p.rs[i]!.2) := fun i hi' => by
    obtain ⟨b', o', u, ea, k1, k2, k3⟩ := hA i hi'
    injection ea with ea
    injection ea with ea1 ea2
    subst ea1 ea2
    exact ⟨u, k1, k2, k3⟩
  have HG : Hid (Gb w0 W ∧ w0.heap.size ≤ wB.heap.size ∧ l.length + p.rs.length ≤ 512) := ⟨g0, gB, hl⟩
  have H0 : Hid (GI wB W fb ib v (l ++ idsOf (p.rs.take 0))) := by unfold Hid; rw [List.take_zero]; simpa [idsOf] using h
  obtain ⟨n, hN⟩ : ∃ n, n = p.rs.length := ⟨_, rfl⟩
  have NN : Hid (n = p.rs.length) := hN
  rw [← hN] at c6
  have hN5 : n ≤ 512 := by omega
  clear h hblk hA e02 e03 hcap g0 gB hl hk hN
  go_enter Tryz.func134, Tryz.ntmps134
  go_wp2_with fail
  go_fit cI
  rintro e W ⟨rfl, rfl⟩
  clear cI
  go_wp2
  clear c6
  go_loopw [25] (fun iv Wr => ∃ j : Nat, iv = .int .i64 (j : Int) ∧ j ≤ n ∧ Hid (∃ v', GI wB Wr fb ib v' (l ++ idsOf (p.rs.take j)) ∧ Gb w0 Wr ∧ ∀ b, Ty W b 100 → Wr.heap[b]? = W.heap[b]?)) (fun iv _ => n - (intOf iv).toNat)
  case atStart => exact ⟨0, rfl, Nat.zero_le _, v, H0.out, HG.out.1, fun _ _ => rfl⟩
  case round =>
    clear H0
    obtain ⟨j, rfl, hj, X⟩ := hrel
    by_cases hjn : j < n
    · have hji : (j : Int) < (n : Int) := by omega
      have hjr : j < p.rs.length := by have := NN.out; omega
      obtain ⟨v', hI, gW, hpt⟩ := X.out
      obtain ⟨u, k1, k2, k3⟩ := HA.out j hjr
      have k1 := gb_keeps gW k1
      have k2 := gb_keeps gW k2
      obtain ⟨ra, rc, eu, _⟩ := k3
      subst eu
      have ETK : Hid (idsOf (p.rs.take (j + 1)) = idsOf (p.rs.take j) ++ [p.rs[j]!.1]) := by
        unfold Hid idsOf
        rw [List.take_succ_eq_append_getElem hjr, List.map_append, getElem!_pos p.rs j hjr]
        rfl
      have hlen : (l ++ idsOf (p.rs.take j)).length + 1 ≤ 512 := by
        have := HG.out.2.2
        unfold idsOf
        rw [List.length_append, List.length_map, List.length_take]
        omega
      obtain ⟨ia, ic, ei, _⟩ := hI.own.rd
      have cv := cell_cur (i := 0) hI.var rfl
      have fz : wr.frozen? ⟨ib, 0, none⟩ = false := by simp [World.frozen?, hI.var]
      generalize hx : p.rs[j]!.1 = x at *
      generalize p.rs[j]!.2.length = rn at *
      have gR : Gb wr (wr.alloc (.cells #[.int .i64 x, .slice ra rn rc] 49)) := gb_alloc (Below.refl _ _) _
      have gV : Gb wr ((wr.alloc (.cells #[.int .i64 x, .slice ra rn rc] 49)).alloc (.cells #[.int .i64 x] 3)) := gb_alloc gR _
      have cv2 := gb_keeps gR cv
      obtain ⟨i0, hi0, hz0, hz1, hz2⟩ := info_insI
      have II : Hid (Tryz.prog.info? 3 = some i0 ∧ i0.zero = some (.int .i64 0) ∧ i0.size = 1 ∧ i0.bytes = 8) := ⟨hi0, hz0, hz1, hz2⟩
      have hown := (hI.keep gV).own
      unfold Own at hown
      have CX : Hid (∀ j u, [Value.int .i64 x][j]? = some u → ((wr.alloc (.cells #[.int .i64 x, .slice ra rn rc] 49)).alloc (.cells #[.int .i64 x] 3)).cell? ((⟨wr.heap.size + 1, 0, none⟩ : Addr).add j) = some u) := by
        have := one_new (wr.alloc (.cells #[.int .i64 x, .slice ra rn rc] 49)) (.int .i64 x) 3
        rwa [World.size_alloc] at this
      have BX : Hid (wB.heap.size ≤ ((wr.alloc (.cells #[.int .i64 x, .slice ra rn rc] 49)).alloc (.cells #[.int .i64 x] 3)).heap.size) := by
        unfold Hid
        have := hI.gb.size
        have := gV.size
        omega
      have FO : Hid (∀ v2 W2, W2.ownsRow wB.heap.size 3 1 v2 ((l ++ idsOf (p.rs.take j)).length + 1) ((l ++ idsOf (p.rs.take j)).map (Value.int .i64) ++ [.int .i64 x]) → ((wr.alloc (.cells #[.int .i64 x, .slice ra rn rc] 49)).alloc (.cells #[.int .i64 x] 3)).grownBy W2 v'.ownBlock → (v2 = .slice none 0 0 ↔ v' = .slice none 0 0 ∧ 1 = 0) → ∃ a2 n2 c2, v2 = .slice (some a2) n2 c2 ∧ (∃ y, W2.cell? ⟨ib, 0, none⟩ = some y) ∧ W2.frozen? ⟨ib, 0, none⟩ = false ∧ Hid (∃ v3, GI wB (W2.setCell ⟨ib, 0, none⟩ (.slice (some a2) n2 c2)) fb ib v3 (l ++ idsOf (p.rs.take (j + 1))) ∧ Gb w0 (W2.setCell ⟨ib, 0, none⟩ (.slice (some a2) n2 c2)) ∧ ∀ b, Ty W b 100 → (W2.setCell ⟨ib, 0, none⟩ (.slice (some a2) n2 c2)).heap[b]? = W.heap[b]?)) := by
        intro v2 W2 ho hg hnn
        obtain ⟨a2, n2, c2, e2⟩ : ∃ a2 n2 c2, v2 = .slice (some a2) n2 c2 := by
          rcases ho.2 with ⟨e, _⟩ | ⟨g9, cap9, cur9, e, _⟩
          · exact absurd (hnn.1 e).2 (by decide)
          · exact ⟨_, _, _, e⟩
        subst e2
        obtain ⟨h1, h2, h3⟩ := hI.next gV ho hg hlen
        refine ⟨a2, n2, c2, rfl, ⟨_, cell_cur h3 rfl⟩, by simp [World.frozen?, h3], _, by rw [ETK.out, ← List.append_assoc]; exact h1, ?_, fun b ht => ?_⟩
        · have := h1.gb
          have s0 := HG.out.2.1
          have gw := gW.size
          refine gW.trans ?_
          have b1 : Below wB.heap.size wr ((wr.alloc (.cells #[.int .i64 x, .slice ra rn rc] 49)).alloc (.cells #[.int .i64 x] 3)) := gV.mono hI.gb.size
          have kp : Tk.Kp (fun b => v'.ownBlock = some b) ((wr.alloc (.cells #[.int .i64 x, .slice ra rn rc] 49)).alloc (.cells #[.int .i64 x] 3)) W2 := ⟨hg.os, hg.tape, hg.output, hg.size, fun k hk hn => hg.block k hk (fun e => hn e.symm)⟩
          have k2 : Tk.Kp (fun b => b = ib) W2 (W2.setCell ⟨ib, 0, none⟩ (.slice (some a2) n2 c2)) := (Tk.Kp.refl (fun b => b = ib) W2).setCell (.inl rfl) _
          have sz := hI.gb.size
          have sv := gV.size
          have sk := kp.size
          have b2 := b1.trans (kp.gr (by omega) (fun b e => (hI.own.lt b e).1))
          have b3 := b2.trans (k2.gr (by omega) (fun b e => by rw [e]; exact hI.ibB))
          exact b3.mono s0
        · have t2 : Ty wr b 100 := by
            obtain ⟨c, s, e⟩ := ht
            exact ⟨c, s, by rw [hpt b ⟨c, s, e⟩]; exact e⟩
          rw [h2 b t2, hpt b ht]
      have el : (l ++ idsOf (p.rs.take j)).length = (l ++ idsOf (p.rs.take j)).length := rfl
      generalize l ++ idsOf (p.rs.take j) = L0 at *
      subst ei
      have HOW : Hid _ := hown
      clear hI gW hpt X hjr ETK hx el gR hown gV
      generalize hnL : L0.length = nL at *
      have hn512 : nL ≤ 512 := by omega
      clear hnL hlen
      go_wp2_with (first
        | (at_builtin; refine wpList_append_own_at _ rfl _ _ 27 rfl wB.heap.size 3 i0 (.int .i64 0) 1 8 Tryz.underlying27 II.out.1 II.out.2.1 II.out.2.2.1 II.out.2.2.2 rfl (by decide) (.slice ia nL ic) nL (L0.map (Value.int .i64)) rfl HOW.out ⟨wr.heap.size + 1, 0, none⟩ 1 1 [.int .i64 x] rfl rfl CX.out (by intro y hy; rw [List.mem_singleton.1 hy]; rfl) (by simp only [maxLen]; omega) (by omega) BX.out ?_; intro v5 w5 hown5 hgrow5 hnil5 hloc5; obtain ⟨a2, n2, c2, rfl, ⟨y2, k2⟩, f2, FN⟩ := FO.out _ _ hown5 hgrow5 hnil5; clear hown5 hgrow5 hnil5 hloc5)
        | go_in)
      go_roundw
      case rel => exact ⟨j + 1, by first | rfl | go_num | simp, hjn, FN.out⟩
      case measure => simp [intOf]; omega
    · have hji : ¬ (j : Int) < (n : Int) := by omega
      obtain ⟨v', hI, _, hpt⟩ := X.out
      have FF : Hid (GOut wB W fb ib (l ++ idsOf p.rs) wr) := ⟨v', by rw [List.take_of_length_le (by have := NN.out; omega)] at hI; exact hI, hpt⟩
      clear hI hpt X
      go_wp2
      go_end0
      exact ⟨rfl, FF.out⟩
set_option maxHeartbeats 2000000 in
set_option maxRecDepth 100000 in
theorem gat_c {w0 wB : World} {T : Nat → Pt} {fb ib : Nat} (gB : w0.heap.size ≤ wB.heap.size) (gw0 : Gb w0 wB) : ∀ (N : Nat) (W : World) (pb : Nat) (p : Pt) (v : Value) (l : List Int) (d : Nat), GI wB W fb ib v l → MP w0 W T N pb p → OkP T d N p → l.length + (rowsP T N p).length ≤ 512 →
    Calls Tryz.prog 134 #[.pointer (some ⟨pb, 0, none⟩), .pointer (some ⟨fb, 0, none⟩), .pointer (some ⟨ib, 0, none⟩)] W fun e W' => e = .returned (.tuple #[]) ∧ GOut wB W fb ib (l ++ idsOf (rowsP T N p)) W' := by
  intro N
  induction N with
  | zero =>
    intro W pb p v l d h hp ok hl
    have hk : p.kids = none := by rw [OkP] at ok; exact ok.1
    rw [rowsP_leaf hk] at hl ⊢
    exact gat_leaf h hp hk (gw0.trans (h.gb.mono gB)) gB hl
  | succ N ih =>
    intro W pb p v l d h hp ok hl
    cases hk : p.kids with
    | none =>
      rw [rowsP_leaf hk] at hl ⊢
      exact gat_leaf h hp hk (gw0.trans (h.gb.mono gB)) gB hl
    | some lh =>
      obtain ⟨lo', hi''⟩ := lh
      obtain ⟨m', em, o1, o2, _⟩ := okP_node hk ok
      have em' : N = m' := by omega
      subst em'
      rw [rowsP_node hk, List.length_append] at hl
      rw [rowsP_node hk]
      have cI := iscut_mp hp
      rw [hk] at cI
      obtain ⟨vl, vh0, vr, hblk, _, _, _, hrs⟩ := hp
      have a := cell_cur (i := 10) (v := kidV (p.kids.map Prod.fst)) hblk rfl
      have b := cell_cur (i := 11) (v := kidV (p.kids.map Prod.snd)) hblk rfl
      have c6 := cell_cur (i := 6) hblk rfl
      rw [hk] at hrs a b
      obtain ⟨evr, tl, th⟩ := hrs
      subst evr
      dsimp only [Option.map, kidV] at a b
      have tp : Ty W pb 100 := ⟨_, _, hblk⟩
      have gW0 : Gb w0 W := gw0.trans (h.gb.mono gB)
      have gWd := (Below.refl W.heap.size W).drew
      have hl1 : (idsOf (rowsP T N (T lo'))).length = (rowsP T N (T lo')).length := by unfold idsOf; rw [List.length_map]
      have c1 := ih W.drew lo' (T lo') v l d (h.keep gWd) (tl.mp (gb_trans gW0 gWd)) o1 (by omega)
      have FS10 : (fun W => W.cell? ⟨fb, 0, none⟩ = some (.func (.func 134) #[] #[.pointer (some ⟨fb, 0, none⟩), .pointer (some ⟨ib, 0, none⟩)]) ∧ W.cell? ⟨pb, 10, none⟩ = some (.pointer (some ⟨lo', 0, none⟩))) W.drew := ⟨h.fn, a⟩
      have N1 : Hid (∀ w1, GOut wB W.drew fb ib (l ++ idsOf (rowsP T N (T lo'))) w1 → ((fun W => W.cell? ⟨fb, 0, none⟩ = some (.func (.func 134) #[] #[.pointer (some ⟨fb, 0, none⟩), .pointer (some ⟨ib, 0, none⟩)]) ∧ W.cell? ⟨pb, 10, none⟩ = some (.pointer (some ⟨lo', 0, none⟩))) w1) ∧ ((fun W => W.cell? ⟨fb, 0, none⟩ = some (.func (.func 134) #[] #[.pointer (some ⟨fb, 0, none⟩), .pointer (some ⟨ib, 0, none⟩)]) ∧ W.cell? ⟨pb, 11, none⟩ = some (.pointer (some ⟨hi'', 0, none⟩))) w1.drew) ∧ (Calls Tryz.prog 134 #[.pointer (some ⟨hi'', 0, none⟩), .pointer (some ⟨fb, 0, none⟩), .pointer (some ⟨ib, 0, none⟩)] w1.drew fun e W' => e = .returned (.tuple #[]) ∧ Hid (GOut wB W fb ib (l ++ idsOf (rowsP T N (T lo') ++ rowsP T N (T hi''))) W' ∧ ((fun W => W.cell? ⟨fb, 0, none⟩ = some (.func (.func 134) #[] #[.pointer (some ⟨fb, 0, none⟩), .pointer (some ⟨ib, 0, none⟩)]) ∧ W.cell? ⟨pb, 11, none⟩ = some (.pointer (some ⟨hi'', 0, none⟩))) W') ∧ W'.cell? ⟨pb, 6, none⟩ = some (.slice none 0 0)))) := by
        rintro w1 ⟨v1, h1, p1⟩
        have hb1 : w1.heap[pb]? = some (.cells (pcells p vl vh0 (.slice none 0 0)) 100 (0, 0)) := by rw [p1 pb (tp.gb gWd)]; exact hblk
        have a1 := cell_cur (i := 10) (v := kidV (p.kids.map Prod.fst)) hb1 rfl
        have b1 := cell_cur (i := 11) (v := kidV (p.kids.map Prod.snd)) hb1 rfl
        rw [hk] at a1 b1
        have gd1 := (Below.refl w1.heap.size w1).drew
        refine ⟨⟨h1.fn, a1⟩, ⟨h1.fn, b1⟩, ?_⟩
        refine (ih w1.drew hi'' (T hi'') v1 _ d (h1.keep gd1) (th.mp (gb_trans (gw0.trans (h1.gb.mono gB)) gd1)) o2 (by rw [List.length_append, hl1]; omega)).mono ?_
        rintro e w2 ⟨rfl, v2, h2, p2⟩
        have hb2 : w2.heap[pb]? = some (.cells (pcells p vl vh0 (.slice none 0 0)) 100 (0, 0)) := by
          have t1 : Ty w1 pb 100 := ⟨_, _, hb1⟩
          rw [p2 pb (t1.gb gd1)]; exact hb1
        have b2 := cell_cur (i := 11) (v := kidV (p.kids.map Prod.snd)) hb2 rfl
        rw [hk] at b2
        refine ⟨rfl, ⟨v2, ?_, fun b ht => ?_⟩, ⟨h2.fn, b2⟩, cell_cur hb2 rfl⟩
        · have e : idsOf (rowsP T N (T lo') ++ rowsP T N (T hi'')) = idsOf (rowsP T N (T lo')) ++ idsOf (rowsP T N (T hi'')) := by unfold idsOf; rw [List.map_append]
          rw [e, ← List.append_assoc]; exact h2
        · have t1 : Ty w1 b 100 := by
            obtain ⟨c, s, e⟩ := ht
            exact ⟨c, s, by rw [p1 b (Ty.gb ⟨c, s, e⟩ gWd)]; exact e⟩
          rw [p2 b (t1.gb gd1)]
          exact p1 b (ht.gb gWd)
      clear ih h hblk tl th o1 o2 hl ok hk hl1 gWd gW0 tp
      go_enter Tryz.func134, Tryz.ntmps134
      go_wp2_with fail
      go_fit cI
      rintro e W ⟨rfl, rfl⟩
      clear cI
      go_wp2_with fail
      refine wp_region_held_drew (S := fun W => W.cell? ⟨fb, 0, none⟩ = some (.func (.func 134) #[] #[.pointer (some ⟨fb, 0, none⟩), .pointer (some ⟨ib, 0, none⟩)]) ∧ W.cell? ⟨pb, 10, none⟩ = some (.pointer (some ⟨lo', 0, none⟩))) (by kernel_rfl) (FS10) (fun hHeld => ?_)
      refine wpAnyH_take (i := 0) (v := ?_) rfl (by kernel_rfl) (by kernel_rfl) (by kernel_rfl) (fun _ _ _ h => h) (Or.inl ⟨by rfl, ?_⟩) (by assumption) ?_
      rotate_left 1
      · (intro w hSw; (obtain ⟨s0, s1⟩ := hSw); go_simp; try with_reducible rfl)
      refine wpAnyH_take (i := 1) (v := ?_) rfl (by kernel_rfl) (by kernel_rfl) (by kernel_rfl) (fun _ _ _ h => h) (Or.inl ⟨by rfl, ?_⟩) (by assumption) ?_
      rotate_left 1
      · (intro w hSw; (obtain ⟨s0, s1⟩ := hSw); go_simp; try with_reducible rfl)
      refine wpAnyH_take (i := 2) (v := ?_) rfl (by kernel_rfl) (by kernel_rfl) (by kernel_rfl) (fun _ _ _ h => h) (Or.inl ⟨by rfl, ?_⟩) (by assumption) ?_
      rotate_left 1
      · (intro w hSw; (obtain ⟨s0, s1⟩ := hSw); go_simp; try with_reducible rfl)
      refine wpAnyH_take (i := 3) (v := ?_) rfl (by kernel_rfl) (by kernel_rfl) (by kernel_rfl) (fun _ _ _ h => h) (Or.inl ⟨by rfl, ?_⟩) (by assumption) ?_
      rotate_left 1
      · (intro w hSw; (obtain ⟨s0, s1⟩ := hSw); go_simp; try with_reducible rfl)
      refine wpAnyH_take (i := 4) (v := ?_) rfl (by kernel_rfl) (by kernel_rfl) (by kernel_rfl) (fun _ _ _ h => h) (Or.inl ⟨by rfl, ?_⟩) (by assumption) ?_
      rotate_left 1
      · (intro w hSw; (obtain ⟨s0, s1⟩ := hSw); go_simp; try with_reducible rfl)
      refine wpAnyH_ready (rs := [5]) (by kernel_rfl) (by simp) ?_
      refine AllReadyH.cons rfl (fun K hK => ?_) AllReadyH.nil
      go_simp
      go_fit c1
      rintro e w1 ⟨rfl, hO⟩
      obtain ⟨K10, FS11, c2⟩ := N1.out _ hO
      clear hO c1 N1
      refine hK.out _ _ (K10) (fun hHeld => ?_)
      clear hK K
      refine wpAnyH_done (by kernel_rfl) ?_ _
      clear hHeld
      go_wp2_with fail
      refine wp_region_held_drew (S := fun W => W.cell? ⟨fb, 0, none⟩ = some (.func (.func 134) #[] #[.pointer (some ⟨fb, 0, none⟩), .pointer (some ⟨ib, 0, none⟩)]) ∧ W.cell? ⟨pb, 11, none⟩ = some (.pointer (some ⟨hi'', 0, none⟩))) (by kernel_rfl) (FS11) (fun hHeld => ?_)
      refine wpAnyH_take (i := 0) (v := ?_) rfl (by kernel_rfl) (by kernel_rfl) (by kernel_rfl) (fun _ _ _ h => h) (Or.inl ⟨by rfl, ?_⟩) (by assumption) ?_
      rotate_left 1
      · (intro w hSw; (obtain ⟨s0, s1⟩ := hSw); go_simp; try with_reducible rfl)
      refine wpAnyH_take (i := 1) (v := ?_) rfl (by kernel_rfl) (by kernel_rfl) (by kernel_rfl) (fun _ _ _ h => h) (Or.inl ⟨by rfl, ?_⟩) (by assumption) ?_
      rotate_left 1
      · (intro w hSw; (obtain ⟨s0, s1⟩ := hSw); go_simp; try with_reducible rfl)
      refine wpAnyH_take (i := 2) (v := ?_) rfl (by kernel_rfl) (by kernel_rfl) (by kernel_rfl) (fun _ _ _ h => h) (Or.inl ⟨by rfl, ?_⟩) (by assumption) ?_
      rotate_left 1
      · (intro w hSw; (obtain ⟨s0, s1⟩ := hSw); go_simp; try with_reducible rfl)
      refine wpAnyH_take (i := 3) (v := ?_) rfl (by kernel_rfl) (by kernel_rfl) (by kernel_rfl) (fun _ _ _ h => h) (Or.inl ⟨by rfl, ?_⟩) (by assumption) ?_
      rotate_left 1
      · (intro w hSw; (obtain ⟨s0, s1⟩ := hSw); go_simp; try with_reducible rfl)
      refine wpAnyH_take (i := 4) (v := ?_) rfl (by kernel_rfl) (by kernel_rfl) (by kernel_rfl) (fun _ _ _ h => h) (Or.inl ⟨by rfl, ?_⟩) (by assumption) ?_
      rotate_left 1
      · (intro w hSw; (obtain ⟨s0, s1⟩ := hSw); go_simp; try with_reducible rfl)
      refine wpAnyH_ready (rs := [5]) (by kernel_rfl) (by simp) ?_
      refine AllReadyH.cons rfl (fun K hK => ?_) AllReadyH.nil
      go_simp
      go_fit c2
      rintro e w2 ⟨rfl, hO⟩
      obtain ⟨FF, K11, c6'⟩ := hO.out
      have F2 : Hid _ := FF
      clear hO c2 FF
      refine hK.out _ _ (K11) (fun hHeld => ?_)
      clear hK K
      refine wpAnyH_done (by kernel_rfl) ?_ _
      clear hHeld K11 FS11
      go_wp2
      go_loopw [25] (fun iv Wr => iv = .int .i64 0 ∧ Wr = w2) (fun _ _ => 0)
      case atStart => exact ⟨rfl, rfl⟩
      case round =>
        obtain ⟨rfl, rfl⟩ := hrel
        go_wp2
        go_end0
        exact ⟨rfl, F2.out⟩
set_option maxHeartbeats 1000000 in
set_option maxRecDepth 100000 in
theorem ids_c {w0 W : World} {T : Nat → Pt} {N pb d : Nat} {p : Pt} (hp : MP w0 W T N pb p) (ok : OkP T d N p) (g0 : Gb w0 W) (hl : (rowsP T N p).length ≤ 512) :
    Calls Tryz.prog 87 #[.pointer (some ⟨pb, 0, none⟩)] W fun e W' => ∃ v, e = .returned v ∧ Own W' W.heap.size v (srt (idsOf (rowsP T N p))) ∧ Gb W W' := by
  have FB : Hid (GI W ((W.alloc (.cells #[.slice none 0 0] 27)).alloc (.cells #[.func (.func 134) #[] #[.pointer (some ⟨W.heap.size + 1, 0, none⟩), .pointer (some ⟨W.heap.size, 0, none⟩)]] 73)) (W.heap.size + 1) W.heap.size (.slice none 0 0) []) := by
    have e1 := heap_new (W.alloc (.cells #[.slice none 0 0] 27)) (.cells #[.func (.func 134) #[] #[.pointer (some ⟨W.heap.size + 1, 0, none⟩), .pointer (some ⟨W.heap.size, 0, none⟩)]] 73)
    rw [World.size_alloc] at e1
    refine ⟨?_, cell_cur e1 rfl, ⟨rfl, .inl ⟨rfl, rfl⟩⟩, Nat.le_refl _, by omega, ⟨_, _, e1⟩, gb_alloc (gb_alloc (Below.refl _ _) _) _, by simp⟩
    have := heap_new W (.cells #[.slice none 0 0] 27)
    rw [(gb_alloc (Below.refl _ _) _ : Gb (W.alloc (.cells #[.slice none 0 0] 27)) _).block W.heap.size (by rw [World.size_alloc]; omega)]
    exact this
  have c1 := gat_c (fb := W.heap.size + 1) (ib := W.heap.size) g0.size g0 N _ pb p _ [] d FB.out (hp.gb FB.out.gb) ok (by simpa using hl)
  rw [List.nil_append] at c1
  have N1 : Hid (∀ w1, GOut W ((W.alloc (.cells #[.slice none 0 0] 27)).alloc (.cells #[.func (.func 134) #[] #[.pointer (some ⟨W.heap.size + 1, 0, none⟩), .pointer (some ⟨W.heap.size, 0, none⟩)]] 73)) (W.heap.size + 1) W.heap.size (idsOf (rowsP T N p)) w1 → ∃ ia ni ic, w1.cell? ⟨W.heap.size, 0, none⟩ = some (.slice ia ni ic) ∧ (Calls Tryz.prog 48 #[.slice ia ni ic] w1 fun e w' => e = .returned (.tuple #[]) ∧ w'.cell? ⟨W.heap.size, 0, none⟩ = some (.slice ia ni ic) ∧ Hid (Own w' W.heap.size (.slice ia ni ic) (srt (idsOf (rowsP T N p))) ∧ Gb W w'))) := by
    rintro w1 ⟨v, h1, _⟩
    obtain ⟨ia, ic, ei, _⟩ := h1.own.rd
    subst ei
    refine ⟨ia, _, ic, cell_cur h1.var rfl, ?_⟩
    have ilt := (Array.getElem?_eq_some_iff.1 h1.var).1
    have own' : Own w1 (W.heap.size + 1) (.slice ia (idsOf (rowsP T N p)).length ic) (idsOf (rowsP T N p)) := by
      refine ⟨h1.own.1, ?_⟩
      rcases h1.own.2 with h | ⟨g, cap, cur, e, hB, hh, r⟩
      · exact .inl h
      · have : g ≠ W.heap.size := tne hh h1.var (by decide)
        exact .inr ⟨g, cap, cur, e, by omega, hh, r⟩
    refine (sort_c own' (by have := h1.len; omega) (by omega)).mono ?_
    rintro e w' ⟨rfl, ho, hbl⟩
    refine ⟨rfl, ?_, ho.mono (by omega), h1.gb.trans (hbl.mono (by omega))⟩
    have : w'.heap[W.heap.size]? = w1.heap[W.heap.size]? := hbl.block _ (by omega)
    exact cell_cur (by rw [this]; exact h1.var) rfl
  clear hp ok g0 hl FB
  go_enter Tryz.func87, Tryz.ntmps87
  go_wp2_with fail
  go_fit c1
  rintro e w1 ⟨rfl, hO⟩
  obtain ⟨ia, ni, ic, cv, cS⟩ := N1.out _ hO
  clear hO c1 N1
  go_wp2_with fail
  go_fit cS
  rintro e w2 ⟨rfl, cv2, hF⟩
  clear cS cv
  go_wp2
  go_ret
  exact ⟨_, rfl, hF.out⟩
end Go.Proofs.YtepjbdklljlecabGreat
