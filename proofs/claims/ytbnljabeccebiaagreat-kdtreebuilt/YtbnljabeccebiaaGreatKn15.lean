import Derived.Test.YtbnljabeccebiaaGreatKn14
import Derived.BigRegion
import Derived.Test.YtbnljabeccebiaaGreatKn13
import Derived.Maps.AppendAt
/- kdtree.around. -/
namespace Go.Proofs.YtbnljabeccebiaaGreat
open Go.RowKit Go.Sort

theorem OutB'.setAt {w W : World} {L H : List Int} {vl vh : Value} {g : Nat} (h : OutB' w W L H vl vh) (hg : w.heap.size ≤ g) (h1 : vl.ownBlock ≠ some g) (h2 : vh.ownBlock ≠ some g) (i : Nat) (u : Value) : OutB' w (W.setCell ⟨g, i, none⟩ u) L H vl vh :=
  ⟨gb_set h.1 hg u, ownsRow_setCell_other h.2.1 h1 u, ownsRow_setCell_other h.2.2 h2 u⟩
theorem set2_other {W : World} {g1 g2 i j b : Nat} {x y : Value} (h1 : b ≠ g1) (h2 : b ≠ g2) : ((W.setCell ⟨g1, i, none⟩ x).setCell ⟨g2, j, none⟩ y).heap[b]? = W.heap[b]? := by
  simp [World.setCell, Array.getElem?_modify, Ne.symm h1, Ne.symm h2]
set_option maxHeartbeats 2000000 in
set_option maxRecDepth 100000 in
theorem around_c {w : World} {v1 v2 : Value} {a b : Reg} {m : Nat} (h1 : RdR w v1 a) (h2 : RdR w v2 b) (hm1 : 1 ≤ m) (hm : m ≤ 64) (ha : a.L.length = m ∧ a.H.length = m) (hb : b.L.length = m ∧ b.H.length = m) :
    Calls Tryz.prog 121 #[v1, v2] w fun e w' => OutB w (tab (fun t => min a.L[t]! b.L[t]!) m) (tab (fun t => max a.H[t]! b.H[t]!) m) e w' := by
  obtain ⟨vl, vh, vi, rfl, r1, r2, ai, ci, rfl, _⟩ := h1
  obtain ⟨ul, uh, ui, rfl, t1, t2, di, ei, rfl, _⟩ := h2
  obtain ⟨S, L, H, R, I⟩ := a
  obtain ⟨S', L', H', R', I'⟩ := b
  dsimp only at *
  obtain ⟨TL, hTL⟩ : ∃ x, x = tab (fun t => min L[t]! L'[t]!) m := ⟨_, rfl⟩
  obtain ⟨TH, hTH⟩ : ∃ x, x = tab (fun t => max H[t]! H'[t]!) m := ⟨_, rfl⟩
  have TT : Hid (TL = tab (fun t => min L[t]! L'[t]!) m ∧ TH = tab (fun t => max H[t]! H'[t]!) m) := ⟨hTL, hTH⟩
  rw [← hTL, ← hTH]
  clear hTL hTH
  have P1 : Hid (RdI w vl L ∧ RdI w vh H) := ⟨r1, r2⟩
  have P2 : Hid (RdI w ul L' ∧ RdI w uh H') := ⟨t1, t2⟩
  obtain ⟨al, cl, rfl, _⟩ := r1
  obtain ⟨ah, ch, rfl, _⟩ := r2
  obtain ⟨bl, dl, rfl, _⟩ := t1
  obtain ⟨bh, dh, rfl, _⟩ := t2
  rw [ha.1, ha.2] at P1
  rw [hb.1, hb.2] at P2
  rw [ha.1, ha.2, hb.1, hb.2]
  have NN : Hid (L.length = m ∧ H.length = m ∧ L'.length = m ∧ H'.length = m) := ⟨ha.1, ha.2, hb.1, hb.2⟩
  generalize I.length = ni
  generalize I'.length = ni'
  clear ha hb
  have G0 : Gb w (((w.alloc (.cells #[.int .i64 S, .slice al m cl, .slice ah m ch, .int .u64 (hi R), .int .u64 (lo R), .slice ai ni ci] 101)).alloc (.cells #[.int .i64 S', .slice bl m dl, .slice bh m dh, .int .u64 (hi R'), .int .u64 (lo R'), .slice di ni' ei] 101)).alloc z36) := gb_alloc (gb_alloc (gb_alloc (Below.refl _ _) _) _) _
  have CL := fun W' (g : Gb w W') => clone_c (P1.out.1.gb g) (by have := NN.out; omega) (by have := NN.out; omega)
  have CH := fun W' (g : Gb w W') => clone_c (P1.out.2.gb g) (by have := NN.out; omega) (by have := NN.out; omega)
  go_enter Tryz.func121, Tryz.ntmps121
  go_wp2_with fail
  go_region_held3 (fun w' => Gb w w' ∧ w'.cell? ⟨w.heap.size, 1, none⟩ = some (.slice al m cl) ∧ w'.cell? ⟨w.heap.size, 2, none⟩ = some (.slice ah m ch)) (first | (with_reducible assumption) | exact ⟨gb_trans (And.left (by assumption)) (by assumption), gb_keeps (by assumption) (And.left (And.right (by assumption))), gb_keeps (by assumption) (And.right (And.right (by assumption)))⟩ | exact ⟨G0.drew, by simp [go_sem], by simp [go_sem]⟩)
    (first
      | (go_at_call 50; refine (CL _ (And.left (by assumption))).mono ?_; rintro e w2 ⟨y1, rfl, ho1, k1⟩)
      | (go_at_call 50; refine (CH _ (And.left (by assumption))).mono ?_; rintro e w3 ⟨y2, rfl, ho2, k2⟩))
  obtain ⟨gl, c1, e1, bl1, bl2⟩ := own_form ho1 (by have := NN.out; omega)
  obtain ⟨gh, c2, e2, bh1, bh2⟩ := own_form ho2 (by have := NN.out; omega)
  rw [NN.out.1] at e1
  rw [NN.out.2.1] at e2
  subst e1 e2
  have BK : Hid (Gb (((w.alloc (.cells #[.int .i64 S, .slice al m cl, .slice ah m ch, .int .u64 (hi R), .int .u64 (lo R), .slice ai ni ci] 101)).alloc (.cells #[.int .i64 S', .slice bl m dl, .slice bh m dh, .int .u64 (hi R'), .int .u64 (lo R'), .slice di ni' ei] 101)).alloc z36) w3 ∧ Gb w w3) := by
    have g := gb_trans (Below.drew (Below.refl _ _)) (gb_trans k1 k2)
    exact ⟨g, gb_trans (gb_alloc (gb_alloc (gb_alloc (Below.refl _ _) _) _) _) g⟩
  have q1 := gb_keeps BK.out.1 (p := ⟨w.heap.size + 1, 1, none⟩) (v := .slice bl m dl) (by simp [go_sem])
  have q2 := gb_keeps BK.out.1 (p := ⟨w.heap.size + 1, 2, none⟩) (v := .slice bh m dh) (by simp [go_sem])
  have s2 := k1.size
  simp only [World.size_drew, World.size_alloc] at bl1 s2
  have ST : Hid (BxSt w w3 gl gh c1 c2 m (fun t => L[t]!) (fun t => H[t]!) ∧ w.heap.size + 2 < gl ∧ w.heap.size + 2 < gh ∧ (w3.cell? ⟨w.heap.size + 1, 1, none⟩ = some (.slice bl m dl) ∧ w3.cell? ⟨w.heap.size + 1, 2, none⟩ = some (.slice bh m dh)) ∧ ((w3.cell? ⟨w.heap.size + 1 + 1, 0, none⟩ = some (.int .i64 0) ∧ w3.cell? ⟨w.heap.size + 1 + 1, 1, none⟩ = some (.slice none 0 0) ∧ w3.cell? ⟨w.heap.size + 1 + 1, 2, none⟩ = some (.slice none 0 0) ∧ w3.cell? ⟨w.heap.size + 1 + 1, 3, none⟩ = some (.int .u64 0) ∧ w3.cell? ⟨w.heap.size + 1 + 1, 4, none⟩ = some (.int .u64 0) ∧ w3.cell? ⟨w.heap.size + 1 + 1, 5, none⟩ = some (.slice none 0 0)) ∧ ∀ i, i < 6 → w3.frozen? ⟨w.heap.size + 1 + 1, i, none⟩ = false)) := by
    have hT : L = tab (fun t => L[t]!) m := by rw [← NN.out.1]; exact tab_of _
    have hT2 : H = tab (fun t => H[t]!) m := by rw [← NN.out.2.1]; exact tab_of _
    have z0 := reg0 BK.out.1
    simp only [World.size_alloc] at z0
    refine ⟨⟨?_, ?_, by omega, by omega, by omega, BK.out.2⟩, by omega, by omega, ⟨q1, q2⟩, z0⟩
    · rw [← hT]; exact (ho1.gb k2).mono (by simp only [World.size_drew, World.size_alloc]; omega)
    · rw [← hT2]; exact ho2.mono (by omega)
  rename_i hHeld
  clear ho1 ho2 k1 k2 CL CH q1 q2 bl1 bl2 bh1 bh2 s2 BK G0 hHeld
  go_wp2
  go_loopw [16] (fun iv W => ∃ (i : Nat) (f h : Nat → Int), iv = .int .i64 (i : Int) ∧ i ≤ m ∧ Hid (BxSt w W gl gh c1 c2 m f h ∧ (∀ t, t < m → f t = (if t < i then min L[t]! L'[t]! else L[t]!) ∧ h t = (if t < i then max H[t]! H'[t]! else H[t]!)) ∧ ∀ (b : Nat), b < w3.heap.size → b ≠ gl → b ≠ gh → W.heap[b]? = w3.heap[b]?)) (fun iv _ => m - (intOf iv).toNat)
  case atStart => exact ⟨0, _, _, rfl, Nat.zero_le _, ST.out.1, fun t _ => ⟨by simp, by simp⟩, fun b _ _ _ => rfl⟩
  case round =>
    obtain ⟨i, f, h, rfl, hi', Z⟩ := hrel
    by_cases him : i < m
    · have hii : (i : Int) < (m : Int) := by omega
      obtain ⟨bx, ox, rfl, x0⟩ := rdi_cell P2.out.1 (i := i) (by have := NN.out; omega)
      obtain ⟨by', oy, rfl, y0⟩ := rdi_cell P2.out.2 (i := i) (by have := NN.out; omega)
      have x0 := gb_keeps Z.out.1.gb x0
      have y0 := gb_keeps Z.out.1.gb y0
      obtain ⟨l0, l1⟩ := Z.out.1.low.at him
      obtain ⟨m0, m1⟩ := Z.out.1.high.at him
      obtain ⟨q1, q2⟩ := ST.out.2.2.2.1
      have t1 := World.block_lt_of_cell? _ _ q1
      have r1 : wr.cell? ⟨w.heap.size + 1, 1, none⟩ = some (.slice (some ⟨bx, ox, none⟩) m dl) := (World.cell?_of_block (Z.out.2.2 _ t1 (by have := ST.out.2.1; dsimp only; omega) (by have := ST.out.2.2.1; dsimp only; omega))).trans q1
      have t2 := World.block_lt_of_cell? _ _ q2
      have r2 : wr.cell? ⟨w.heap.size + 1, 2, none⟩ = some (.slice (some ⟨by', oy, none⟩) m dh) := (World.cell?_of_block (Z.out.2.2 _ t2 (by have := ST.out.2.1; dsimp only; omega) (by have := ST.out.2.2.1; dsimp only; omega))).trans q2
      have ne' : gl ≠ gh := Z.out.1.ne
      have ne2 : gh ≠ gl := fun e => ne' e.symm
      have ZN : Hid (∀ x y : Int, x = min (f i) L'[i]! → y = max (h i) H'[i]! → ∀ t, t < m → (if t = i then x else f t) = (if t < i + 1 then min L[t]! L'[t]! else L[t]!) ∧ (if t = i then y else h t) = (if t < i + 1 then max H[t]! H'[t]! else H[t]!)) := by
        intro x y hx hy t ht
        obtain ⟨z1, z2⟩ := Z.out.2.1 t ht
        by_cases e : t = i
        · subst e
          rw [if_neg (by omega)] at z1 z2
          rw [if_pos rfl, if_pos (by omega), if_pos rfl, if_pos (by omega), hx, hy, z1, z2]; exact ⟨rfl, rfl⟩
        · rw [if_neg e, if_neg e, z1, z2]
          by_cases l : t < i
          · rw [if_pos l, if_pos (by omega), if_pos l, if_pos (by omega)]; exact ⟨rfl, rfl⟩
          · rw [if_neg l, if_neg (by omega), if_neg l, if_neg (by omega)]; exact ⟨rfl, rfl⟩
      have ZK : Hid (∀ (b : Nat), b < w3.heap.size → b ≠ gl → b ≠ gh → wr.heap[b]? = w3.heap[b]?) := Z.out.2.2
      have ZS := Z.out.1
      clear Z P1 P2 q1 q2 t1 t2 ST
      generalize L'[i]! = x at *
      generalize H'[i]! = y at *
      generalize f i = lo0 at *
      generalize h i = hi0 at *
      go_wp2
      go_region
      all_goals
        clear l0 l1 m0 m1 x0 y0 r1 r2
        go_wp2
        refine ⟨⟨i + 1, _, _, by go_num, him, BxSt.set ZS.drew him _ _, ZN.out _ _ rfl rfl, fun b hb h1 h2 => (set2_other h1 h2).trans (ZK.out b hb h1 h2)⟩, by simp [intOf]; omega⟩
    · have hii : ¬ (i : Int) < (m : Int) := by omega
      have YN : Hid (OutB' w wr TL TH (.slice (some ⟨gl, 0, none⟩) m c1) (.slice (some ⟨gh, 0, none⟩) m c2)) := by
        obtain ⟨z1, z2, _⟩ := Z.out
        have e1 : tab f m = tab (fun t => min L[t]! L'[t]!) m := tab_ext (fun t ht => by rw [(z2 t ht).1, if_pos (by omega)])
        have e2 : tab h m = tab (fun t => max H[t]! H'[t]!) m := tab_ext (fun t ht => by rw [(z2 t ht).2, if_pos (by omega)])
        rw [TT.out.1, TT.out.2]
        exact ⟨z1.gb, e1 ▸ z1.low, e2 ▸ z1.high⟩
      obtain ⟨_, n1, n2, _, ⟨q0, q1, q2, q3, q4, q5⟩, qf⟩ := ST.out
      have hbk : wr.heap[w.heap.size + 1 + 1]? = w3.heap[w.heap.size + 1 + 1]? := Z.out.2.2 _ (World.block_lt_of_cell? _ _ q0) (by omega) (by omega)
      have f0 := (World.frozen?_of_block (a := ⟨w.heap.size + 1 + 1, 0, none⟩) hbk).trans (qf 0 (by omega))
      have f1 := (World.frozen?_of_block (a := ⟨w.heap.size + 1 + 1, 1, none⟩) hbk).trans (qf 1 (by omega))
      have f2 := (World.frozen?_of_block (a := ⟨w.heap.size + 1 + 1, 2, none⟩) hbk).trans (qf 2 (by omega))
      have f3 := (World.frozen?_of_block (a := ⟨w.heap.size + 1 + 1, 3, none⟩) hbk).trans (qf 3 (by omega))
      have f4 := (World.frozen?_of_block (a := ⟨w.heap.size + 1 + 1, 4, none⟩) hbk).trans (qf 4 (by omega))
      have f5 := (World.frozen?_of_block (a := ⟨w.heap.size + 1 + 1, 5, none⟩) hbk).trans (qf 5 (by omega))
      have q0 := (World.cell?_of_block (a := ⟨w.heap.size + 1 + 1, 0, none⟩) hbk).trans q0
      have q1 := (World.cell?_of_block (a := ⟨w.heap.size + 1 + 1, 1, none⟩) hbk).trans q1
      have q2 := (World.cell?_of_block (a := ⟨w.heap.size + 1 + 1, 2, none⟩) hbk).trans q2
      have q3 := (World.cell?_of_block (a := ⟨w.heap.size + 1 + 1, 3, none⟩) hbk).trans q3
      have q4 := (World.cell?_of_block (a := ⟨w.heap.size + 1 + 1, 4, none⟩) hbk).trans q4
      have q5 := (World.cell?_of_block (a := ⟨w.heap.size + 1 + 1, 5, none⟩) hbk).trans q5
      have N2 : Hid (w.heap.size + 2 < gl ∧ w.heap.size + 2 < gh) := ⟨n1, n2⟩
      clear Z ST P1 P2 qf hbk n1 n2
      go_wp2
      refine bodyPost_ret (v := .agg #[.int .i64 2, .slice (some ⟨gl, 0, none⟩) m c1, .slice (some ⟨gh, 0, none⟩) m c2, .int .u64 0, .int .u64 0, .slice none 0 0]) (by simp [results, Tryz.results121, go_sem, q0, q1, q2, q3, q4, q5]) rfl ⟨_, _, rfl, ?_⟩
      have b1 : (Value.slice (some ⟨gl, 0, none⟩) m c1).ownBlock ≠ some (w.heap.size + 1 + 1) := by have := N2.out; simp [Value.ownBlock]; omega
      have b2 : (Value.slice (some ⟨gh, 0, none⟩) m c2).ownBlock ≠ some (w.heap.size + 1 + 1) := by have := N2.out; simp [Value.ownBlock]; omega
      have hle : w.heap.size ≤ w.heap.size + 1 + 1 := by omega
      exact (((((YN.out.setAt hle b1 b2 _ _).setAt hle b1 b2 _ _).setAt hle b1 b2 _ _).setAt hle b1 b2 _ _).setAt hle b1 b2 _ _).setAt hle b1 b2 _ _
end Go.Proofs.YtbnljabeccebiaaGreat

/- kdtree.copies: rows in memory of their own. -/
namespace Go.Proofs.YtbnljabeccebiaaGreat
open Go.RowKit Go.Sort Go.Maps

/-- An append in a region that draws, by its run. -/
theorem app_run {o : Oper} {a : Act} {w : World} {K : Act → World → Prop} {Q : Exit → Act → World → Prop} (_hgd : o.guard = none) (s x : Operand) (t : TypeId)
    (ho : o.op = .call { callee := .builtin .append, args := #[s, x], argTypes := #[t, t] }) (h : ∃ v1 v2 v' w', a.eval s = v1 ∧ a.eval x = v2 ∧ (Builtin.append_ #[t, t] o.type #[v1, v2]).run Tryz.prog w = .ok v' w' ∧ K (a.put o.dst v') w') :
    Oper.wp Tryz.prog o a w K Q := by
  obtain ⟨v1, v2, v', w', hs, hx, hr, h⟩ := h
  unfold Oper.wp execOp
  simp only [ho, resolve, invoke, builtin, Sem.run_bind, Sem.run_pure, Result.andThen_ok, List.map_toArray, List.map_cons, List.map_nil, hs, hx, hr]
  exact h

/-- Rows that the call owns, in blocks from B on, their vectors too. -/
def OwnC (W : World) (B : Nat) (v : Value) (rs : List Rw) : Prop := v ≠ .slice none 0 0 ∧ ∃ xs, W.ownsRow B 43 2 v rs.length xs ∧ ∀ i, i < rs.length → xs[i * 2]? = some (.int .i64 rs[i]!.1) ∧ ∃ u, xs[i * 2 + 1]? = some u ∧ Own W B u rs[i]!.2
theorem OwnC.gb {W W' : World} {B : Nat} {v : Value} {rs : List Rw} (h : OwnC W B v rs) (g : Gb W W') : OwnC W' B v rs := by
  obtain ⟨hn, xs, h1, h2⟩ := h
  refine ⟨hn, xs, h1.kept (row := none) ⟨g.os, g.tape, g.output, g.size, fun k hk _ => g.block k hk⟩ (by cases hv : v.ownBlock <;> simp), fun i hi => ?_⟩
  obtain ⟨a, u, b, c⟩ := h2 i hi
  exact ⟨a, u, b, c.gb g⟩
theorem OwnC.form {W : World} {B : Nat} {v : Value} {rs : List Rw} (h : OwnC W B v rs) : ∃ g cap, v = .slice (some ⟨g, 0, none⟩) rs.length cap := by
  obtain ⟨hn, xs, h, _⟩ := h
  rcases h.2 with ⟨e, h0⟩ | ⟨b, cap, cur, rfl, _⟩
  · exact absurd e hn
  · exact ⟨_, cap, rfl⟩
theorem OwnC.ownW {W : World} {B : Nat} {v : Value} {rs : List Rw} (h : OwnC W B v rs) : OwnW W W B v rs := by
  obtain ⟨_, xs, h1, h2⟩ := h
  refine ⟨xs, h1, fun i hi => ?_⟩
  obtain ⟨a, u, b, c⟩ := h2 i hi
  exact ⟨a, u, b, c.rd⟩
theorem OwnC.rdw {W : World} {B : Nat} {v : Value} {rs : List Rw} (h : OwnC W B v rs) : RdW W v rs := h.ownW.rdw (Below.refl _ _)
theorem own_neR {W : World} {B B' n : Nat} {u v : Value} {x : List Int} {xs : List Value} (h : Own W B u x) (r : W.ownsRow B' 43 2 v n xs) : u.ownBlock = none ∨ u.ownBlock ≠ v.ownBlock := by
  rcases h.2 with ⟨rfl, _⟩ | ⟨g, cap, cur, rfl, _, hh, _⟩
  · exact .inl rfl
  · refine .inr fun e => ?_
    rcases r.2 with ⟨rfl, _⟩ | ⟨g', cap', cur', rfl, _, hh', _⟩
    · cases e
    · cases e
      rw [hh] at hh'
      simp at hh'
theorem grown_cellC {W W' : World} {row : Option Nat} (h : W.grownBy W' row) {p : Addr} {v : Value} (hc : W.cell? p = some v) (hne : row ≠ some p.block) : W'.cell? p = some v := by
  rw [World.cell?_of_block (h.block p.block (World.block_lt_of_cell? W p hc) (fun e => hne e.symm))]; exact hc
/-- One more row. -/
theorem OwnC.next {w W : World} {pv : Option Addr} {nv cv : Nat} {rs : List Rw} {x : Int} {l : List Int} {u : Value} (h : OwnC W w.heap.size (.slice pv nv cv) rs) (hn : rs.length ≤ 4000) (g : Gb w W) (ho : Own W w.heap.size u l) :
    ∃ v' W', (Builtin.append_ #[22, 22] 22 #[.slice pv nv cv, .slice (some ⟨W.heap.size, 0, none⟩) 1 1]).run Tryz.prog (W.alloc (.cells #[.int .i64 x, u] 43)) = .ok v' W' ∧ OwnC W' w.heap.size v' (rs ++ [(x, l)]) ∧ Gb w W' ∧ ∀ (p : Addr) (y : Value), (Value.slice pv nv cv).ownBlock ≠ some p.block → (W.alloc (.cells #[.int .i64 x, u] 43)).cell? p = some y → W'.cell? p = some y := by
  obtain ⟨_, xs, h1, h2⟩ := h
  obtain ⟨i0, hi, hz0, hz1, hz2⟩ := info_partsW
  have hu : u.oneCell' = true := by obtain ⟨a, c, rfl, _⟩ := ho.rd; rfl
  obtain ⟨v', W', hr, hown, hgrow, hnn, _⟩ := run_append_own_at (P := Tryz.prog) (W.alloc (.cells #[.int .i64 x, u] 43)) w.heap.size 22 22 43 i0 (.agg #[.int .i64 0, .slice none 0 0]) 2 32 Tryz.underlying22 hi hz0 hz1 hz2 rfl (by decide)
    (.slice pv nv cv) rs.length xs (World.ownsRow.alloc h1 _) ⟨W.heap.size, 0, none⟩ 1 1 [.int .i64 x, u] rfl (two_cells _ _ _ _) (by simp [Value.oneCell']; try exact hu) (by simp only [maxLen]; omega) (by omega) (by rw [World.size_alloc]; have := g.size; omega)
  refine ⟨v', W', hr, ⟨fun e => absurd (hnn.1 e).2 (by decide), xs ++ [.int .i64 x, u], by rw [List.length_append]; exact hown, fun i hi => ?_⟩, ?_, fun p y hp hc => grown_cellC hgrow hc hp⟩
  · have kp : ∀ {u' : Value} {y : List Int}, Own W w.heap.size u' y → Own W' w.heap.size u' y := fun {u' y} ho' => (ho'.gb (gb_alloc (Below.refl _ _) _)).kept hgrow (own_neR ho' h1)
    rw [List.length_append] at hi
    by_cases e : i < rs.length
    · rw [getElem!_pos (rs ++ [(x, l)]) i (by rw [List.length_append]; exact hi), List.getElem_append_left e, ← getElem!_pos rs i e, List.getElem?_append_left (by have := h1.1; omega), List.getElem?_append_left (by have := h1.1; omega)]
      obtain ⟨a, u', b, c⟩ := h2 i e
      exact ⟨a, u', b, kp c⟩
    · have e' : i = rs.length := by simp at hi; omega
      subst e'
      have e2 : (rs ++ [(x, l)])[rs.length]! = (x, l) := by rw [getElem!_pos _ _ (by simp)]; simp
      have hl := h1.1
      rw [e2, List.getElem?_append_right (by omega), List.getElem?_append_right (by omega), hl]
      exact ⟨by simp, u, by rw [show rs.length * 2 + 1 - rs.length * 2 = 1 by omega]; rfl, kp ho⟩
  · refine below_grown (gb_alloc g _) hgrow (fun k e => ?_) (gb_alloc g _).size
    have := (h1.lt k e).1
    omega

set_option maxHeartbeats 1000000 in
set_option maxRecDepth 100000 in
theorem copies_c {w : World} {v : Value} {rs : List Rw} (h : RdW w v rs) (hn : rs.length ≤ 4000) (hv : ∀ i, i < rs.length → 1 ≤ rs[i]!.2.length ∧ rs[i]!.2.length ≤ 100000) :
    Calls Tryz.prog 46 #[v] w fun e w' => ∃ v', e = .returned v' ∧ OwnC w' w.heap.size v' rs ∧ Gb w w' := by
  have A : Hid (RdW w v rs) := h
  have VL : Hid (∀ i, i < rs.length → 1 ≤ rs[i]!.2.length ∧ rs[i]!.2.length ≤ 100000) := hv
  obtain ⟨a, cap, rfl, _⟩ := h
  obtain ⟨n, hN⟩ : ∃ n, n = rs.length := ⟨_, rfl⟩
  have N : Hid (n = rs.length) := hN
  rw [← hN] at A hn ⊢
  clear hN hv
  obtain ⟨i0, hi, hz0, hz1, hz2⟩ := info_partsW
  obtain ⟨w1, hmk, ho, hg⟩ := run_make_own (P := Tryz.prog) w w.heap.size 22 43 i0 (.agg #[.int .i64 0, .slice none 0 0]) 2 Tryz.underlying22 hi hz0 hz1 .i64 .i64 n (by rw [hz2]; omega) (by simp only [maxLen]; omega) (Nat.le_refl _)
  have O : Hid (OwnC w1 w.heap.size (.slice (some ⟨w.heap.size, 0, none⟩) 0 n) (rs.take 0) ∧ Gb w w1) := ⟨⟨by simp, [], ho, fun i hi => absurd hi (by simp)⟩, below_grown (Below.refl _ _) hg (fun k e => by cases e) (Nat.le_refl _)⟩
  clear hi hz0 hz1 hz2 ho hg
  go_enter Tryz.func46, Tryz.ntmps46
  go_wp2
  clear hmk
  go_loopw [3, 11] (fun ov iv W => ∃ q : Nat, iv = .int .i64 (q : Int) ∧ q ≤ n ∧ Hid (OwnC W w.heap.size ov (rs.take q) ∧ Gb w W)) (fun _ iv _ => n - (intOf iv).toNat)
  case atStart => exact ⟨0, rfl, Nat.zero_le _, O.out⟩
  case round =>
    clear O
    obtain ⟨q, rfl, hq, X⟩ := hrel
    by_cases hqn : q < n
    · have hqi : (q : Int) < (n : Int) := by omega
      have hql : q < rs.length := by have := N.out; omega
      obtain ⟨_, _, e1, hA⟩ := A.out
      obtain ⟨b, o, u, ea, k1, k2, k3⟩ := hA q hql
      injection e1 with e2 e3 e4
      subst e2
      subst ea
      have NX : Hid (rs.take (q + 1) = rs.take q ++ [(rs[q]!.1, rs[q]!.2)]) := by unfold Hid; rw [List.take_succ_eq_append_getElem hql, getElem!_pos rs q hql]
      have NL : Hid ((rs.take q).length = q) := by unfold Hid; rw [List.length_take]; omega
      have VB := VL.out q hql
      generalize rs[q]!.1 = x at *
      generalize rs[q]!.2 = V at *
      have x0 := gb_keeps X.out.2 k1
      have x1 := gb_keeps X.out.2 k2
      have G1 : Hid (Gb w (wr.alloc (.cells #[.int .i64 x, u] 43)).drew) := (gb_alloc X.out.2 _).drew
      have cC := clone_c (k3.gb G1.out) VB.2 VB.1
      obtain ⟨pu, cu, eu, _⟩ := k3
      subst eu
      obtain ⟨gv, cv, ev⟩ := X.out.1.form
      obtain ⟨pv, hpv⟩ : ∃ pv, pv = some (⟨gv, 0, none⟩ : Addr) := ⟨_, rfl⟩
      rw [← hpv] at ev
      subst ev
      rw [NL.out]
      have XO : Hid (OwnC wr w.heap.size (.slice pv q cv) (rs.take q)) := by unfold Hid; have := X.out.1; rwa [NL.out] at this
      obtain ⟨nu, hnu⟩ : ∃ nu, nu = V.length := ⟨_, rfl⟩
      rw [← hnu] at x1 G1 cC
      have FS0 : (wr.alloc (.cells #[.int .i64 x, .slice pu nu cu] 43)).drew.cell? ⟨wr.heap.size, 0, none⟩ = some (.int .i64 x) ∧ (wr.alloc (.cells #[.int .i64 x, .slice pu nu cu] 43)).drew.cell? ⟨wr.heap.size, 1, none⟩ = some (.slice pu nu cu) := ⟨by simp [go_sem], by simp [go_sem]⟩
      have FIN : Hid (∀ w4 u4, Gb (wr.alloc (.cells #[.int .i64 x, .slice pu nu cu] 43)).drew w4 → Own w4 (wr.alloc (.cells #[.int .i64 x, .slice pu nu cu] 43)).drew.heap.size u4 V →
          ∃ v' W', (Builtin.append_ #[22, 22] 22 #[.slice pv q cv, .slice (some ⟨w4.heap.size, 0, none⟩) 1 1]).run Tryz.prog (w4.alloc (.cells #[.int .i64 x, u4] 43)) = .ok v' W' ∧ (OwnC W' w.heap.size v' (rs.take (q + 1)) ∧ Gb w W') ∧ ∀ i y, (w4.alloc (.cells #[.int .i64 x, u4] 43)).cell? ⟨wr.heap.size, i, none⟩ = some y → W'.cell? ⟨wr.heap.size, i, none⟩ = some y) := by
        intro w4 u4 g4 o4
        rw [NX.out]
        obtain ⟨v', W', h1, h2, h3, h4⟩ := OwnC.next (x := x) (u := u4) (l := V) (XO.out.gb (gb_trans (Below.drew (gb_alloc (Below.refl _ _) _)) g4)) (by rw [NL.out]; omega) (gb_trans G1.out g4) (o4.mono G1.out.size)
        refine ⟨v', W', h1, ⟨h2, h3⟩, fun i y hy => h4 _ _ (fun e => ?_) hy⟩
        obtain ⟨_, xs, hx, _⟩ := XO.out
        have := (hx.lt _ e).2
        dsimp only at this
        omega
      have KX : Hid (1 ≤ V.length ∧ V.length ≤ 100000) := VB
      clear hA e3 e4 k1 k2 hql X XO VB hnu
      go_wp2_with fail
      refine wp_region_held_drew (S := fun W => W.cell? ⟨wr.heap.size, 0, none⟩ = some (.int .i64 x) ∧ W.cell? ⟨wr.heap.size, 1, none⟩ = some (.slice pu nu cu)) (by kernel_rfl) (FS0) (fun hHeld => ?_)
      refine wpAnyH_take (i := 0) (v := ?_) rfl (by kernel_rfl) (by kernel_rfl) (by kernel_rfl) (fun _ _ _ h => h) (Or.inl ⟨by rfl, ?_⟩) (by assumption) ?_
      rotate_left 1
      · (intro w hSw; (obtain ⟨s0, s1⟩ := hSw); go_simp; try with_reducible rfl)
      try simp only [Act.put, List.getElem_toArray, List.getElem_cons_zero, List.setIfInBounds_toArray, List.set_cons_zero, List.set_cons_succ]
      refine wpAnyH_take (i := 1) (v := ?_) rfl (by kernel_rfl) (by kernel_rfl) (by kernel_rfl) (fun _ _ _ h => h) (Or.inl ⟨by rfl, ?_⟩) (by assumption) ?_
      rotate_left 1
      · (intro w hSw; (obtain ⟨s0, s1⟩ := hSw); go_simp; try with_reducible rfl)
      try simp only [Act.put, List.getElem_toArray, List.getElem_cons_zero, List.getElem_cons_succ, List.setIfInBounds_toArray, List.set_cons_zero, List.set_cons_succ]
      refine wpAnyH_take (i := 2) (v := ?_) rfl (by kernel_rfl) (by kernel_rfl) (by kernel_rfl) (fun _ _ _ h => h) (Or.inl ⟨by rfl, ?_⟩) (by assumption) ?_
      rotate_left 1
      · (intro w hSw; (obtain ⟨s0, s1⟩ := hSw); go_simp; try with_reducible rfl)
      try simp only [Act.put, List.getElem_toArray, List.getElem_cons_zero, List.getElem_cons_succ, List.setIfInBounds_toArray, List.set_cons_zero, List.set_cons_succ]
      refine wpAnyH_take (i := 3) (v := ?_) rfl (by kernel_rfl) (by kernel_rfl) (by kernel_rfl) (fun _ _ _ h => h) (Or.inl ⟨by rfl, ?_⟩) (by assumption) ?_
      rotate_left 1
      · (intro w hSw; (obtain ⟨s0, s1⟩ := hSw); go_simp; try with_reducible rfl)
      try simp only [Act.put, List.getElem_toArray, List.getElem_cons_zero, List.getElem_cons_succ, List.setIfInBounds_toArray, List.set_cons_zero, List.set_cons_succ]
      refine wpAnyH_take (i := 4) (v := ?_) rfl (by kernel_rfl) (by kernel_rfl) (by kernel_rfl) (fun _ _ _ h => h) (Or.inl ⟨by rfl, ?_⟩) (by assumption) ?_
      rotate_left 1
      · (intro w hSw; (obtain ⟨s0, s1⟩ := hSw); go_simp; try with_reducible rfl)
      try simp only [Act.put, List.getElem_toArray, List.getElem_cons_zero, List.getElem_cons_succ, List.setIfInBounds_toArray, List.set_cons_zero, List.set_cons_succ]
      refine wpAnyH_ready (rs := [5]) (by kernel_rfl) (by simp) ?_
      refine AllReadyH.cons rfl (fun K hK => ?_) AllReadyH.nil
      go_simp
      go_fit cC
      rintro e w4 ⟨v4, rfl, o4, g4⟩
      obtain ⟨a4, c4, e4, _⟩ := o4.rd
      subst e4
      refine hK.out _ _ (⟨gb_keeps g4 hHeld.1, gb_keeps g4 hHeld.2⟩) (fun hHeld => ?_)
      clear hK K
      try simp only [Act.put, List.getElem_toArray, List.getElem_cons_zero, List.getElem_cons_succ, List.setIfInBounds_toArray, List.set_cons_zero, List.set_cons_succ]
      refine wpAnyH_take (i := 6) (v := ?_) rfl (by kernel_rfl) (by kernel_rfl) (by kernel_rfl) (fun _ _ _ h => h) (Or.inl ⟨by rfl, ?_⟩) (by assumption) ?_
      rotate_left 1
      · (intro w hSw; (obtain ⟨s0, s1⟩ := hSw); go_simp; try with_reducible rfl)
      try simp only [Act.put, List.getElem_toArray, List.getElem_cons_zero, List.getElem_cons_succ, List.setIfInBounds_toArray, List.set_cons_zero, List.set_cons_succ]
      have F4 := FIN.out w4 _ g4 o4
      obtain ⟨v5, w5, hrun, XN, S5⟩ := F4
      generalize V.length = nV at *
      clear o4 FIN
      refine wpAnyH_ready (rs := [7]) (by kernel_rfl) (by simp) ?_
      refine AllReadyH.cons rfl (fun K hK => ?_) AllReadyH.nil
      go_simp
      refine hK.out _ _ (⟨gb_keeps (gb_alloc (Below.refl _ _) _) hHeld.1, gb_keeps (gb_alloc (Below.refl _ _) _) hHeld.2⟩) (fun hHeld => ?_)
      clear hK K
      try simp only [Act.put, List.getElem_toArray, List.getElem_cons_zero, List.getElem_cons_succ, List.setIfInBounds_toArray, List.set_cons_zero, List.set_cons_succ]
      refine wpAnyH_ready (rs := [8]) (by kernel_rfl) (by simp) ?_
      refine AllReadyH.cons rfl (fun K hK => ?_) AllReadyH.nil
      refine app_run (by rfl) _ _ _ (by rfl) ⟨.slice pv q cv, .slice (some ⟨w4.heap.size, 0, none⟩) 1 1, _, _, (by go_simp), (by go_simp), hrun, ?_⟩
      refine hK.out _ _ ⟨S5 _ _ hHeld.1, S5 _ _ hHeld.2⟩ (fun hHeld => ?_)
      clear hK K
      try simp only [Act.put, List.getElem_toArray, List.getElem_cons_zero, List.getElem_cons_succ, List.setIfInBounds_toArray, List.set_cons_zero, List.set_cons_succ]
      refine wpAnyH_take (i := 9) (v := ?_) rfl (by kernel_rfl) (by kernel_rfl) (by kernel_rfl) (fun _ _ _ h => h) (Or.inl ⟨by rfl, ?_⟩) (by assumption) ?_
      rotate_left 1
      · (intro w hSw; (obtain ⟨s0, s1⟩ := hSw); go_simp; try with_reducible rfl)
      try simp only [Act.put, List.getElem_toArray, List.getElem_cons_zero, List.getElem_cons_succ, List.setIfInBounds_toArray, List.set_cons_zero, List.set_cons_succ]
      refine wpAnyH_done (by kernel_rfl) ?_ _
      clear hrun hHeld S5
      go_wp2
      go_roundw
      case rel => exact ⟨q + 1, by first | rfl | go_num, hqn, XN⟩
      case measure => simp [intOf]; omega
    · have hqi : ¬ (q : Int) < (n : Int) := by omega
      have e : q = n := by omega
      subst e
      have XE : Hid (OwnC wr w.heap.size u3 rs ∧ Gb w wr) := by
        have := X.out
        rwa [List.take_of_length_le (by have := N.out; omega)] at this
      clear X
      go_wp2
      go_ret
      exact ⟨_, rfl, XE.out⟩
end Go.Proofs.YtbnljabeccebiaaGreat
