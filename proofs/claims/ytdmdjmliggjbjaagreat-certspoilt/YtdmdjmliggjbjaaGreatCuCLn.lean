/- The law's lent: an answer in memory of its own. -/
import Derived.Test.YtdmdjmliggjbjaaGreatCuCLo
namespace Go.Proofs.YtdmdjmliggjbjaaGreat
open Go.RowKit Go.Sort Go.Maps

def StopL (p : Prop) : Prop := p
theorem StopL.go {p : Prop} (h : StopL p) : p := h
theorem own_ty_ne {W : World} {B B' n n' s s' : Nat} {e e' : TypeId} {v v' : Value} {xs xs' : List Value} (h : W.ownsRow B e s v n xs) (h' : W.ownsRow B' e' s' v' n' xs') (hne : e ≠ e') : v.ownBlock = none ∨ v.ownBlock ≠ v'.ownBlock := by
  rcases h.2 with ⟨rfl, _⟩ | ⟨g, cap, cur, rfl, _, hh, _⟩
  · exact .inl rfl
  · refine .inr fun e => ?_
    rcases h'.2 with ⟨rfl, _⟩ | ⟨g', cap', cur', rfl, _, hh', _⟩
    · cases e
    · cases e
      rw [hh] at hh'
      injection hh' with hh'
      injection hh' with _ h2 _
      exact hne h2
theorem own_num_ne {W : World} {B n s b : Nat} {e : TypeId} {v : Value} {xs : List Value} (h : W.ownsRow B e s v n xs) (hb : b < B) : v.ownBlock = none ∨ v.ownBlock ≠ some b := by
  cases hv : v.ownBlock with
  | none => exact .inl rfl
  | some k =>
    refine .inr fun e' => ?_
    injection e' with e'
    have := (h.lt k hv).1
    omega
theorem frozen_blk {W W' : World} {b o : Nat} (h : W'.heap[b]? = W.heap[b]?) (hf : W.frozen? ⟨b, o, none⟩ = false) : W'.frozen? ⟨b, o, none⟩ = false := by
  simp only [World.frozen?] at hf ⊢
  rw [h]; exact hf
theorem set_off {W : World} {b o o' : Nat} {u v : Value} (h : W.cell? ⟨b, o', none⟩ = some v) (ho : o ≠ o') : (W.setCell ⟨b, o, none⟩ u).cell? ⟨b, o', none⟩ = some v := by
  rw [World.cell?_setCell_other W ⟨b, o, none⟩ ⟨b, o', none⟩ u (by intro e; injection e with _ e; exact ho e)]
  exact h
theorem grown_none {W W' : World} (g : W.grownBy W' none) : Gb W W' := ⟨g.os, g.tape, g.output, g.size, fun k hk => g.block k hk (by simp)⟩
theorem grown_set {W : World} {b o : Nat} (u : Value) : W.grownBy (W.setCell ⟨b, o, none⟩ u) (some b) := by
  have k : Tk.Kp (fun k => k = b) W (W.setCell ⟨b, o, none⟩ u) := (Tk.Kp.refl (fun k => k = b) W).setCell (p := ⟨b, o, none⟩) (.inl rfl) u
  exact ⟨k.os, k.tape, k.output, k.size, fun i hi' hn => k.block i hi' (fun e => hn (by rw [e]))⟩
/-- What lent has laid out, up to t regions. -/
structure LnSt (w W : World) (N B2 : Nat) (vr uh us ur : Value) (a : Ans) (t : Nat) : Prop where
  gb : Gb w W
  nn : N = w.heap.size
  box : W.cell? ⟨N, 2, none⟩ = some vr
  b0 : W.cell? ⟨N + 1 + 1, 0, none⟩ = some uh
  b1 : W.cell? ⟨N + 1 + 1, 1, none⟩ = some us
  b2 : W.cell? ⟨N + 1 + 1, 2, none⟩ = some ur
  f2 : W.frozen? ⟨N + 1 + 1, 2, none⟩ = false
  r0 : W.cell? ⟨N + 1, 0, none⟩ = some (.slice none 0 0) ∧ W.cell? ⟨N + 1, 1, none⟩ = some (.slice none 0 0) ∧ W.cell? ⟨N + 1, 2, none⟩ = some (.slice none 0 0)
  rf : W.frozen? ⟨N + 1, 0, none⟩ = false ∧ W.frozen? ⟨N + 1, 1, none⟩ = false ∧ W.frozen? ⟨N + 1, 2, none⟩ = false
  oh : OwnH W (N + 3) uh a.hits
  os : Own W (N + 3) us a.seen
  sb : ∀ k, us.ownBlock = some k → k < B2
  or : OwnL W (N + 3) B2 ur (a.rest.take t)
  sz : N + 3 ≤ B2 ∧ B2 ≤ W.heap.size
def LnOut (w : World) (a : Ans) (e : Ending) (w' : World) : Prop := ∃ uh us ur B B2, e = .returned (.agg #[uh, us, ur]) ∧ Gb w w' ∧ w.heap.size ≤ B ∧ OwnH w' B uh a.hits ∧ Own w' B us a.seen ∧ (∀ k, us.ownBlock = some k → k < B2) ∧ OwnL w' B B2 ur a.rest
set_option maxRecDepth 100000 in
set_option maxHeartbeats 2000000 in
theorem lent_c {w : World} {vh vs vr : Value} {a : Ans} (ha : RdAN w vh vs vr a) (hin : InA a) (hv : ∀ r ∈ a.rest, r.L.length ≤ 100000 ∧ r.H.length ≤ 100000) :
    Calls Tryz.prog 8 #[.agg #[vh, vs, vr]] w fun e w' => LnOut w a e w' := by
  have A : Hid (RdAN w vh vs vr a) := ha
  have HI : Hid (InA a) := hin
  have HV : Hid (∀ r ∈ a.rest, r.L.length ≤ 100000 ∧ r.H.length ≤ 100000) := hv
  obtain ⟨x3, y3, evh, zz3⟩ := ha.hits.form
  obtain ⟨x4, y4, evs, zz4⟩ := ha.seen
  obtain ⟨x5, y5, evr, zz5⟩ := ha.rest
  subst evh; subst evs; subst evr
  clear ha hin hv zz3 zz4 zz5
  obtain ⟨N, hN⟩ : ∃ N, N = w.heap.size := ⟨_, rfl⟩
  have HN : Hid (N = w.heap.size) := hN
  obtain ⟨n3, hn3⟩ : ∃ n, n = a.hits.length := ⟨_, rfl⟩
  obtain ⟨n4, hn4⟩ : ∃ n, n = a.seen.length := ⟨_, rfl⟩
  obtain ⟨n5, hn5⟩ : ∃ n, n = a.rest.length := ⟨_, rfl⟩
  have NN : Hid (n3 = a.hits.length ∧ n4 = a.seen.length ∧ n5 = a.rest.length) := ⟨hn3, hn4, hn5⟩
  have hn5b : n5 ≤ 100000 := by have := HI.out.rest; omega
  rw [← hn3, ← hn4, ← hn5] at A ⊢
  clear hn3 hn4 hn5
  obtain ⟨W0, hW0⟩ : ∃ W0, W0 = ((w.alloc (.cells #[.slice x3 n3 y3, .slice x4 n4 y4, .slice x5 n5 y5] 27)).alloc (.cells #[.slice none 0 0, .slice none 0 0, .slice none 0 0] 27)).alloc (.cells #[.slice none 0 0, .slice none 0 0, .slice none 0 0] 27) := ⟨_, rfl⟩
  have G0 : Hid (Gb w W0) := by unfold Hid; rw [hW0]; exact gb_alloc (gb_alloc (gb_alloc (Below.refl _ _) _) _) _
  have S0 : Hid (W0.heap.size = N + 3) := by unfold Hid; rw [hW0, hN]; simp [World.size_alloc]
  have hlh : a.hits.length ≤ 1000000 := by have := HI.out.hits; omega
  have hls : a.seen.length ≤ 1000000 := by have := HI.out.ids; unfold allIds at this; rw [List.length_append] at this; omega
  have LL : Hid (a.hits.length ≤ 1000000 ∧ a.seen.length ≤ 1000000) := ⟨hlh, hls⟩
  clear hlh hls
  go_enter Tryz.func8, Tryz.ntmps8
  have B0 : Hid (W0.cell? ⟨w.heap.size, 1, none⟩ = some (.slice x4 n4 y4) ∧ W0.cell? ⟨w.heap.size, 2, none⟩ = some (.slice x5 n5 y5)) := by unfold Hid; rw [hW0]; exact ⟨by simp [go_sem], by simp [go_sem]⟩
  have B1 : Hid (∀ j, j < 3 → W0.cell? ⟨w.heap.size + 1, j, none⟩ = some (.slice none 0 0) ∧ W0.frozen? ⟨w.heap.size + 1, j, none⟩ = false ∧ W0.cell? ⟨w.heap.size + 1 + 1, j, none⟩ = some (.slice none 0 0) ∧ W0.frozen? ⟨w.heap.size + 1 + 1, j, none⟩ = false) := by
    intro j hj
    rw [hW0]
    rcases j with _ | _ | _ | j
    · simp [go_sem]
    · simp [go_sem]
    · simp [go_sem]
    · omega
  go_wp2_with (first
    | (at_builtin; refine app_H rfl _ _ rfl (N + 3) rfl (l := a.hits) rfl (A.out.hits.gr (by rw [← hW0]; exact G0.out)) A.out.hn LL.out.1 (by rw [← hW0, S0.out]; exact Nat.le_refl _) ?_; intro x1 y1 w1 o1 g1; rw [← hW0] at g1; have G1 : Gb W0 w1 := grown_none g1; have e0 := gb_keeps G1 (B1.out 0 (by decide)).2.2.1; have e1 := gb_keeps G1 (B1.out 1 (by decide)).2.2.1; have e2 := gb_keeps G1 (B1.out 2 (by decide)).2.2.1; have f0 := (G1.frozen (p := ⟨w.heap.size + 1 + 1, 0, none⟩) (by rw [S0.out, HN.out]; dsimp only; omega)).trans (B1.out 0 (by decide)).2.2.2; have f1 := (G1.frozen (p := ⟨w.heap.size + 1 + 1, 1, none⟩) (by rw [S0.out, HN.out]; dsimp only; omega)).trans (B1.out 1 (by decide)).2.2.2; have a1 := gb_keeps G1 B0.out.1)
    | (at_builtin; refine app_I rfl _ _ rfl (N + 3) rfl (l := a.seen) rfl (A.out.seen.gb (gb_set (gb_trans G0.out G1) (by dsimp only; omega) _)) A.out.sn LL.out.2 (by first | (rw [World.size_setCell]; have := G1.size; have := S0.out; omega) | (have := G1.size; have := S0.out; simp; omega)) ?_; intro x2 y2 w2 o2 g2; have G2 : Gb (w1.setCell ⟨w.heap.size + 1 + 1, 0, none⟩ (.slice x1 a.hits.length y1)) w2 := grown_none g2; have e1 := gb_keeps G2 (set_off e1 (by decide)); have f1 := (G2.frozen (p := ⟨w.heap.size + 1 + 1, 1, none⟩) (by have := cell_lt e2; dsimp only at this ⊢; simpa using this)).trans ((World.frozen?_setCell ..).trans f1))
    | go_in)
  obtain ⟨W3, hW3⟩ : ∃ W3, W3 = w2.setCell ⟨w.heap.size + 1 + 1, 1, none⟩ (.slice x2 a.seen.length y2) := ⟨_, rfl⟩
  have LS : Hid (LnSt w W3 N w2.heap.size (.slice x5 n5 y5) (.slice x1 a.hits.length y1) (.slice x2 a.seen.length y2) (.slice none 0 0) a 0) := by
    have hN := HN.out
    have sz1 := G1.size
    have sz2 := G2.size
    have sz0 := S0.out
    rw [World.size_setCell] at sz2
    have far : ∀ {b o : Nat} {v : Value}, b ≠ w.heap.size + 1 + 1 → w1.cell? ⟨b, o, none⟩ = some v → W3.cell? ⟨b, o, none⟩ = some v := fun {b o v} hb h => by
      rw [hW3, World.cell?_setCell_far _ _ _ _ (by dsimp only; omega)]
      refine gb_keeps G2 ?_
      rw [World.cell?_setCell_far _ _ _ _ (by dsimp only; omega)]
      exact h
    have frz : ∀ {b o : Nat}, b < w.heap.size + 3 → W3.frozen? ⟨b, o, none⟩ = W0.frozen? ⟨b, o, none⟩ := fun {b o} hb => by
      rw [hW3, World.frozen?_setCell, G2.frozen (p := ⟨b, o, none⟩) (by rw [World.size_setCell]; dsimp only; omega), World.frozen?_setCell, G1.frozen (p := ⟨b, o, none⟩) (by dsimp only; omega)]
    have gw2 : Gb w w2 := gb_trans (gb_set (gb_trans G0.out G1) (by dsimp only; omega) _) G2
    refine ⟨by rw [hW3]; exact gb_set gw2 (by dsimp only; omega) _, HN.out, ?_, ?_, ?_, ?_, ?_, ?_, ?_, ?_, ?_, ?_, by rw [List.take_zero]; exact ownL_nil _ _ _, ?_⟩
    · rw [hN]; exact far (by omega) (gb_keeps G1 B0.out.2)
    · rw [hN, hW3]; exact set_off (gb_keeps G2 (World.cell?_setCell_same _ _ _ e0)) (by decide)
    · rw [hN, hW3]; exact World.cell?_setCell_same _ _ _ e1
    · rw [hN, hW3]; exact set_off (gb_keeps G2 (set_off e2 (by decide))) (by decide)
    · rw [hN, frz (by omega)]; exact (B1.out 2 (by decide)).2.2.2
    · rw [hN]; exact ⟨far (by omega) (gb_keeps G1 (B1.out 0 (by decide)).1), far (by omega) (gb_keeps G1 (B1.out 1 (by decide)).1), far (by omega) (gb_keeps G1 (B1.out 2 (by decide)).1)⟩
    · rw [hN, frz (by omega), frz (by omega), frz (by omega)]; exact ⟨(B1.out 0 (by decide)).2.1, (B1.out 1 (by decide)).2.1, (B1.out 2 (by decide)).2.1⟩
    · have h1 : OwnH (w1.setCell ⟨w.heap.size + 1 + 1, 0, none⟩ (.slice x1 a.hits.length y1)) (N + 3) (.slice x1 a.hits.length y1) a.hits := World.ownsRow.kept o1 (grown_set _) (by
        rcases o1.2 with ⟨e, _⟩ | ⟨g, cap, cur, e, hg, _⟩
        · rw [e]; exact .inl rfl
        · rw [e]; refine .inr fun e' => ?_
          injection e' with e'
          dsimp only at e'; omega)
      have h2 : OwnH w2 (N + 3) (.slice x1 a.hits.length y1) a.hits := World.ownsRow.kept h1 g2 (by cases hv : (Value.slice x1 a.hits.length y1).ownBlock <;> simp)
      rw [hW3]
      exact World.ownsRow.kept h2 (grown_set _) (by
        rcases h2.2 with ⟨e, _⟩ | ⟨g, cap, cur, e, hg, _⟩
        · rw [e]; exact .inl rfl
        · rw [e]; refine .inr fun e' => ?_
          injection e' with e'
          dsimp only at e'; omega)
    · rw [hW3]
      exact o2.kept (grown_set _) (by
        rcases o2.2 with ⟨e, _⟩ | ⟨g, cap, cur, e, hg, _⟩
        · rw [e]; exact .inl rfl
        · rw [e]; refine .inr fun e' => ?_
          injection e' with e'
          dsimp only at e'; omega)
    · exact fun k hk => (World.ownsRow.lt o2 k hk).2
    · exact ⟨by omega, by rw [hW3, World.size_setCell]; exact Nat.le_refl _⟩
  rw [← hW3]
  obtain ⟨B2, hB2⟩ : ∃ B2, B2 = w2.heap.size := ⟨_, rfl⟩
  rw [← hB2] at LS
  generalize Value.slice x1 a.hits.length y1 = uh at *
  generalize Value.slice x2 a.seen.length y2 = us at *
  have SHP : Hid ((∃ x y z, uh = .slice x y z) ∧ ∃ x y z, us = .slice x y z) := by
    obtain ⟨x, y, e⟩ := row_fm LS.out.oh
    obtain ⟨x', y', e'⟩ := row_fm LS.out.os
    exact ⟨⟨_, _, _, e⟩, ⟨_, _, _, e'⟩⟩
  have bx := LS.out.box
  rw [HN.out] at bx
  clear hW3 hB2 e0 e1 e2 f0 f1 a1 o1 o2 g1 g2 G1 G2 B0 B1 hW0
  go_loopw [4] (fun iv W => ∃ (t : Nat) (ur : Value), iv = .int .i64 (t : Int) ∧ t ≤ n5 ∧ Hid (LnSt w W N B2 (.slice x5 n5 y5) uh us ur a t)) (fun iv _ => n5 - (intOf iv).toNat)
  case atStart => exact ⟨0, _, rfl, Nat.zero_le _, LS.out⟩
  case round =>
    clear LS bx
    obtain ⟨t, ur, rfl, ht, X⟩ := hrel
    have bx := X.out.box
    rw [HN.out] at bx
    by_cases htn : t < n5
    · have hti : (t : Int) < (n5 : Int) := by omega
      have htl : t < a.rest.length := by have := NN.out; omega
      obtain ⟨_, _, ea, _, hA⟩ := A.out.rest
      obtain ⟨b1, o1, v1, v2, v3, e1, c0, c1, c2, c3, c4, c5, r1, r2, r3, m1, m2, m3⟩ := hA t htl
      injection ea with ea1 ea2 ea3
      subst ea1; subst e1
      replace c0 := gb_keeps X.out.gb c0
      replace c1 := gb_keeps X.out.gb c1
      replace c2 := gb_keeps X.out.gb c2
      replace c3 := gb_keeps X.out.gb c3
      replace c4 := gb_keeps X.out.gb c4
      replace c5 := gb_keeps X.out.gb c5
      have R1 : Hid (RdI wr v1 a.rest[t].L ∧ NilOk v1 ∧ a.rest[t].L.length ≤ 1000000) := ⟨r1.gb X.out.gb, m1, by have := (HV.out _ (List.getElem_mem htl)).1; omega⟩
      have R2 : Hid (RdI wr v2 a.rest[t].H ∧ NilOk v2 ∧ a.rest[t].H.length ≤ 1000000) := ⟨r2.gb X.out.gb, m2, by have := (HV.out _ (List.getElem_mem htl)).2; omega⟩
      have R3 : Hid (RdI wr v3 a.rest[t].I ∧ NilOk v3 ∧ a.rest[t].I.length ≤ 1000000) := ⟨r3.gb X.out.gb, m3, by have := HI.out.I _ (List.getElem_mem htl); omega⟩
      have TK : Hid (a.rest.take (t + 1) = a.rest.take t ++ [a.rest[t]] ∧ (a.rest.take t).length = t) := ⟨List.take_succ_eq_append_getElem htl, by rw [List.length_take]; omega⟩
      obtain ⟨r, hr⟩ : ∃ r, r = a.rest[t] := ⟨_, rfl⟩
      rw [← hr] at c0 c3 c4 R1 R2 R3 TK
      obtain ⟨p1, q1, rfl, z1⟩ := r1
      obtain ⟨p2, q2, rfl, z2⟩ := r2
      obtain ⟨p3, q3, rfl, z3⟩ := r3
      rw [← hr] at c1 c2 c5 R1 R2 R3
      clear z1 z2 z3 hA hr htl ea2 ea3 m1 m2 m3
      obtain ⟨xs, hown, hcel⟩ := X.out.or
      rw [TK.out.2] at hown
      have HC : Hid (∀ i (hi' : i < (a.rest.take t).length), ∃ vl vh vi, xs[i * 6]? = some (.int .i64 (a.rest.take t)[i].S) ∧ xs[i * 6 + 1]? = some vl ∧ xs[i * 6 + 2]? = some vh ∧ xs[i * 6 + 3]? = some (.int .u64 (hi (a.rest.take t)[i].R)) ∧ xs[i * 6 + 4]? = some (.int .u64 (lo (a.rest.take t)[i].R)) ∧ xs[i * 6 + 5]? = some vi ∧ Own wr B2 vl (a.rest.take t)[i].L ∧ Own wr B2 vh (a.rest.take t)[i].H ∧ Own wr B2 vi (a.rest.take t)[i].I) := hcel
      obtain ⟨ux, uc, eur⟩ := row_fm hown
      subst eur
      have bb := X.out.b2
      have bf := X.out.f2
      rw [HN.out] at bb bf
      have SZ := X.out.sz
      have hNN := HN.out
      obtain ⟨i0, hi0, hz0, hz1, hz2⟩ := info_partsG
      have II : Hid (Tryz.prog.info? 48 = some i0 ∧ i0.zero = some (.agg #[.int .i64 0, .slice none 0 0, .slice none 0 0, .int .u64 0, .int .u64 0, .slice none 0 0]) ∧ i0.size = 6 ∧ i0.bytes = 96) := ⟨hi0, hz0, hz1, hz2⟩
      clear hi0 hz0 hz1 hz2 hcel
      have SZH : Hid (N + 3 ≤ B2 ∧ B2 ≤ wr.heap.size ∧ N = w.heap.size) := ⟨SZ.1, SZ.2, hNN⟩
      clear SZ hNN
      obtain ⟨S, L, H, R, I⟩ := r
      dsimp only at c0 c1 c2 c3 c4 c5 R1 R2 R3
      obtain ⟨Rh, hRh⟩ : ∃ Rh, Rh = hi R := ⟨_, rfl⟩
      obtain ⟨Rl, hRl⟩ : ∃ Rl, Rl = lo R := ⟨_, rfl⟩
      have HRR : Hid (Rh = hi R ∧ Rl = lo R) := ⟨hRh, hRl⟩
      rw [← hRh] at c3
      rw [← hRl] at c4
      clear hRh hRl
      have HO : Hid (∀ W, Gb wr W → W.ownsRow (N + 3) 48 6 (.slice ux t uc) t xs) := fun W g => World.ownsRow.kept hown (row := none) ⟨g.os, g.tape, g.output, g.size, fun k hk _ => g.block k hk⟩ (by cases hv : (Value.slice ux t uc).ownBlock <;> simp)
      have HOB : Hid (∀ k, (Value.slice ux t uc).ownBlock = some k → N + 3 ≤ k ∧ k < wr.heap.size) := hown.lt
      have HOT : Hid (∀ k, (Value.slice ux t uc).ownBlock = some k → ∀ cs, wr.heap[k]? ≠ some (.cells cs 3 (0, 0))) := fun k hk cs e => by
        rcases hown.2 with ⟨e1, _⟩ | ⟨g, cap, cur, e1, _, hh, _⟩
        · rw [e1] at hk; cases hk
        · rw [e1] at hk
          injection hk with hk
          subst hk
          rw [e] at hh
          simp at hh
      have hxl : Hid (xs.length = t * 6) := hown.1
      obtain ⟨Wx, hWx⟩ : ∃ Wx, Wx = (wr.alloc (.cells #[.int .i64 S, .slice p1 L.length q1, .slice p2 H.length q2, .int .u64 Rh, .int .u64 Rl, .slice p3 I.length q3] 48)).alloc (.cells #[.int .i64 S, .slice none 0 0, .slice none 0 0, .int .u64 Rh, .int .u64 Rl, .slice none 0 0] 48) := ⟨_, rfl⟩
      have GX : Gb wr Wx := by rw [hWx]; exact gb_alloc (gb_alloc (Below.refl _ _) _) _
      have SX : Hid (Wx.heap.size = wr.heap.size + 2) := by unfold Hid; rw [hWx]; simp [World.size_alloc]
      have RX : Hid (Wx.cell? ⟨wr.heap.size, 2, none⟩ = some (.slice p2 H.length q2) ∧ Wx.cell? ⟨wr.heap.size, 5, none⟩ = some (.slice p3 I.length q3)) := by unfold Hid; rw [hWx]; exact ⟨by simp [go_sem], by simp [go_sem]⟩
      have XX : Hid (Wx.cell? ⟨wr.heap.size + 1, 0, none⟩ = some (.int .i64 S) ∧ Wx.cell? ⟨wr.heap.size + 1, 1, none⟩ = some (.slice none 0 0) ∧ Wx.cell? ⟨wr.heap.size + 1, 2, none⟩ = some (.slice none 0 0) ∧ Wx.cell? ⟨wr.heap.size + 1, 3, none⟩ = some (.int .u64 Rh) ∧ Wx.cell? ⟨wr.heap.size + 1, 4, none⟩ = some (.int .u64 Rl) ∧ Wx.cell? ⟨wr.heap.size + 1, 5, none⟩ = some (.slice none 0 0)) := by
        unfold Hid; rw [hWx]; exact ⟨by simp [go_sem], by simp [go_sem], by simp [go_sem], by simp [go_sem], by simp [go_sem], by simp [go_sem]⟩
      have XF : Hid (∀ o, Wx.frozen? ⟨wr.heap.size + 1, o, none⟩ = false) := fun o => by rw [hWx]; simp [go_sem]
      have RG : Hid (Gb wr Wx) := GX
      have BBH : Hid (wr.cell? ⟨w.heap.size + 1 + 1, 2, none⟩ = some (.slice ux t uc) ∧ wr.frozen? ⟨w.heap.size + 1 + 1, 2, none⟩ = false) := ⟨bb, bf⟩
      clear GX hown
      go_wp2_with (first
        | (at_builtin; refine app_I rfl _ _ rfl (wr.heap.size + 2) rfl (l := L) rfl (R1.out.1.gb (by rw [← hWx]; exact RG.out)) R1.out.2.1 R1.out.2.2 (by rw [← hWx, SX.out]; exact Nat.le_refl _) ?_; intro j1 k1 wa oa ga; rw [← hWx] at ga; have GA : Gb Wx wa := grown_none ga; have ra2 := gb_keeps GA RX.out.1; have ra5 := gb_keeps GA RX.out.2; have xa0 := gb_keeps GA XX.out.1; have xa1 := gb_keeps GA XX.out.2.1; have xa2 := gb_keeps GA XX.out.2.2.1; have xa3 := gb_keeps GA XX.out.2.2.2.1; have xa4 := gb_keeps GA XX.out.2.2.2.2.1; have xa5 := gb_keeps GA XX.out.2.2.2.2.2; have xf1 := (GA.frozen (p := ⟨wr.heap.size + 1, 1, none⟩) (by rw [SX.out]; dsimp only; omega)).trans (XF.out 1))
        | (at_builtin; refine app_I rfl _ _ rfl (wr.heap.size + 2) rfl (l := H) rfl (R2.out.1.gb (gb_set (gb_trans RG.out GA) (by dsimp only; omega) _)) R2.out.2.1 R2.out.2.2 (by rw [World.size_setCell]; have := GA.size; have := SX.out; omega) ?_; intro j2 k2 wb ob gbb; have GB : Gb (wa.setCell ⟨wr.heap.size + 1, 1, none⟩ (.slice j1 L.length k1)) wb := grown_none gbb; have rb5 := gb_keeps GB ((World.cell?_setCell_far _ _ _ _ (by dsimp only; omega)).trans ra5); have xb0 := gb_keeps GB (set_off xa0 (by decide)); have xb1 := gb_keeps GB (World.cell?_setCell_same _ _ _ xa1); have xb2 := gb_keeps GB (set_off xa2 (by decide)); have xb3 := gb_keeps GB (set_off xa3 (by decide)); have xb4 := gb_keeps GB (set_off xa4 (by decide)); have xb5 := gb_keeps GB (set_off xa5 (by decide)); have xf2 := (GB.frozen (p := ⟨wr.heap.size + 1, 2, none⟩) (by rw [World.size_setCell]; have := GA.size; have := SX.out; dsimp only; omega)).trans ((World.frozen?_setCell ..).trans ((GA.frozen (p := ⟨wr.heap.size + 1, 2, none⟩) (by rw [SX.out]; dsimp only; omega)).trans (XF.out 2))))
        | (at_builtin; refine app_I rfl _ _ rfl (wr.heap.size + 2) rfl (l := I) rfl (R3.out.1.gb (gb_set (gb_trans (gb_set (gb_trans RG.out GA) (by dsimp only; omega) _) GB) (by dsimp only; omega) _)) R3.out.2.1 R3.out.2.2 (by rw [World.size_setCell]; have := GB.size; rw [World.size_setCell] at this; have := GA.size; have := SX.out; omega) ?_; intro j3 k3 wc oc gcc; have GC : Gb (wb.setCell ⟨wr.heap.size + 1, 2, none⟩ (.slice j2 H.length k2)) wc := grown_none gcc; have xc0 := gb_keeps GC (set_off xb0 (by decide)); have xc1 := gb_keeps GC (set_off xb1 (by decide)); have xc2 := gb_keeps GC (World.cell?_setCell_same _ _ _ xb2); have xc3 := gb_keeps GC (set_off xb3 (by decide)); have xc4 := gb_keeps GC (set_off xb4 (by decide)); have xc5 := gb_keeps GC (set_off xb5 (by decide)); have xf5 := (GC.frozen (p := ⟨wr.heap.size + 1, 5, none⟩) (by rw [World.size_setCell]; have := cell_lt xb0; dsimp only at this ⊢; omega)).trans ((World.frozen?_setCell ..).trans ((GB.frozen (p := ⟨wr.heap.size + 1, 5, none⟩) (by rw [World.size_setCell]; have := cell_lt xa0; dsimp only at this ⊢; omega)).trans ((World.frozen?_setCell ..).trans ((GA.frozen (p := ⟨wr.heap.size + 1, 5, none⟩) (by rw [SX.out]; dsimp only; omega)).trans (XF.out 5))))); have GV : Gb wr (wc.setCell ⟨wr.heap.size + 1, 5, none⟩ (.slice j3 I.length k3)) := gb_set (gb_trans (gb_set (gb_trans (gb_set (gb_trans RG.out GA) (by dsimp only; omega) _) GB) (by dsimp only; omega) _) GC) (by dsimp only; omega) _; have bv := gb_keeps GV BBH.out.1)
        | (at_builtin; refine StopL.go ?_)
        | go_in)
      unfold StopL
      refine wpList_append_own_at _ rfl _ _ 25 rfl (N + 3) 48 i0 (.agg #[.int .i64 0, .slice none 0 0, .slice none 0 0, .int .u64 0, .int .u64 0, .slice none 0 0]) 6 96 Tryz.underlying25 II.out.1 II.out.2.1 II.out.2.2.1 II.out.2.2.2 rfl (by decide) (.slice ux t uc) t xs rfl ((HO.out _ GV).alloc _) ⟨wc.heap.size, 0, none⟩ 1 1 [.int .i64 S, .slice j1 L.length k1, .slice j2 H.length k2, .int .u64 Rh, .int .u64 Rl, .slice j3 I.length k3] rfl rfl (by have := six_cells (wc.setCell ⟨wr.heap.size + 1, 5, none⟩ (.slice j3 I.length k3)) (.int .i64 S) (.slice j1 L.length k1) (.slice j2 H.length k2) (.int .u64 Rh) (.int .u64 Rl) (.slice j3 I.length k3) 48; rw [World.size_setCell] at this; exact this) (by simp [Value.oneCell']) (by simp only [maxLen]; omega) (by omega) (by rw [World.size_alloc, World.size_setCell]; have := GV.size; rw [World.size_setCell] at this; have := SZH.out; omega) ?_
      intro v5 w5 hown5 hgrow5 hnil5 hloc5
      obtain ⟨vx, vc, ev5⟩ := row_fm hown5
      subst ev5
      have GVa : Hid (Gb wr ((wc.setCell ⟨wr.heap.size + 1, 5, none⟩ (.slice j3 I.length k3)).alloc (.cells #[.int .i64 S, .slice j1 L.length k1, .slice j2 H.length k2, .int .u64 Rh, .int .u64 Rl, .slice j3 I.length k3] 48))) := gb_alloc GV _
      have hblk : ∀ b, b < wr.heap.size → some b ≠ (Value.slice ux t uc).ownBlock → w5.heap[b]? = wr.heap[b]? := fun b hb hn => (hgrow5.block b (Nat.lt_of_lt_of_le hb GVa.out.size) hn).trans (GVa.out.block b hb)
      have NB : Hid (w.heap.size + 1 + 1 < wr.heap.size ∧ some (w.heap.size + 1 + 1) ≠ (Value.slice ux t uc).ownBlock) := ⟨by have := SZH.out; omega, fun e => by have h1 := HOB.out _ e.symm; have h2 := SZH.out; omega⟩
      have bw : w5.cell? ⟨w.heap.size + 1 + 1, 2, none⟩ = some (.slice ux t uc) := (Tk.Kp.grown hgrow5).cell (alloc_keeps bv _) NB.out.2
      have bwf : w5.frozen? ⟨w.heap.size + 1 + 1, 2, none⟩ = false := frozen_blk (hblk _ NB.out.1 NB.out.2) BBH.out.2
      have XN : Hid (LnSt w (w5.setCell ⟨w.heap.size + 1 + 1, 2, none⟩ (.slice vx (t + 1) vc)) N B2 (.slice (some ⟨b1, o1, none⟩) n5 y5) uh us (.slice vx (t + 1) vc) a (t + 1)) := by
        have hN := HN.out
        have sz := SZH.out
        have far : ∀ {b o : Nat} {v : Value}, b < N + 3 → b ≠ w.heap.size + 1 + 1 → wr.cell? ⟨b, o, none⟩ = some v → (w5.setCell ⟨w.heap.size + 1 + 1, 2, none⟩ (.slice vx (t + 1) vc)).cell? ⟨b, o, none⟩ = some v := fun {b o v} hb hb2 h => by
          rw [World.cell?_setCell_far _ _ _ _ (by dsimp only; omega)]
          exact (Tk.Kp.grown hgrow5).cell (gb_keeps GVa.out h) (fun e => by have := HOB.out _ e.symm; dsimp only at this; omega)
        have b5 : ∀ {o : Nat} {v : Value}, wr.cell? ⟨w.heap.size + 1 + 1, o, none⟩ = some v → w5.cell? ⟨w.heap.size + 1 + 1, o, none⟩ = some v := fun {o v} h => (Tk.Kp.grown hgrow5).cell (gb_keeps GVa.out h) NB.out.2
        have frz : ∀ {b o : Nat}, b < N + 3 → wr.frozen? ⟨b, o, none⟩ = false → (w5.setCell ⟨w.heap.size + 1 + 1, 2, none⟩ (.slice vx (t + 1) vc)).frozen? ⟨b, o, none⟩ = false := fun {b o} hb h => by
          rw [World.frozen?_setCell]
          exact frozen_blk (hblk b (by omega) (fun e => by have := HOB.out _ e.symm; omega)) h
        have hV := (HO.out _ GV).alloc (.cells #[.int .i64 S, .slice j1 L.length k1, .slice j2 H.length k2, .int .u64 Rh, .int .u64 Rl, .slice j3 I.length k3] 48)
        have inn : ∀ {u : Value} {m : List Int}, Own ((wc.setCell ⟨wr.heap.size + 1, 5, none⟩ (.slice j3 I.length k3)).alloc (.cells #[.int .i64 S, .slice j1 L.length k1, .slice j2 H.length k2, .int .u64 Rh, .int .u64 Rl, .slice j3 I.length k3] 48)) B2 u m → Own (w5.setCell ⟨w.heap.size + 1 + 1, 2, none⟩ (.slice vx (t + 1) vc)) B2 u m := fun {u m} h => by
          have h2 := h.kept hgrow5 (own_ty_ne h hV (by decide))
          exact h2.kept (grown_set _) (own_num_ne h2 (by omega))
        have oa' : Own ((wc.setCell ⟨wr.heap.size + 1, 5, none⟩ (.slice j3 I.length k3)).alloc (.cells #[.int .i64 S, .slice j1 L.length k1, .slice j2 H.length k2, .int .u64 Rh, .int .u64 Rl, .slice j3 I.length k3] 48)) B2 (.slice j1 L.length k1) L := by
          have h1 := oa.kept (grown_set (b := wr.heap.size + 1) (o := 1) (.slice j1 L.length k1)) (own_num_ne oa (by omega))
          have h2 := (h1.gb GB).kept (grown_set (b := wr.heap.size + 1) (o := 2) (.slice j2 H.length k2)) (own_num_ne (h1.gb GB) (by omega))
          have h3 := (h2.gb GC).kept (grown_set (b := wr.heap.size + 1) (o := 5) (.slice j3 I.length k3)) (own_num_ne (h2.gb GC) (by omega))
          exact (h3.gb (gb_alloc (Below.refl _ _) _)).mono (by omega)
        have ob' : Own ((wc.setCell ⟨wr.heap.size + 1, 5, none⟩ (.slice j3 I.length k3)).alloc (.cells #[.int .i64 S, .slice j1 L.length k1, .slice j2 H.length k2, .int .u64 Rh, .int .u64 Rl, .slice j3 I.length k3] 48)) B2 (.slice j2 H.length k2) H := by
          have h2 := ob.kept (grown_set (b := wr.heap.size + 1) (o := 2) (.slice j2 H.length k2)) (own_num_ne ob (by omega))
          have h3 := (h2.gb GC).kept (grown_set (b := wr.heap.size + 1) (o := 5) (.slice j3 I.length k3)) (own_num_ne (h2.gb GC) (by omega))
          exact (h3.gb (gb_alloc (Below.refl _ _) _)).mono (by omega)
        have oc' : Own ((wc.setCell ⟨wr.heap.size + 1, 5, none⟩ (.slice j3 I.length k3)).alloc (.cells #[.int .i64 S, .slice j1 L.length k1, .slice j2 H.length k2, .int .u64 Rh, .int .u64 Rl, .slice j3 I.length k3] 48)) B2 (.slice j3 I.length k3) I := by
          have h3 := oc.kept (grown_set (b := wr.heap.size + 1) (o := 5) (.slice j3 I.length k3)) (own_num_ne oc (by omega))
          exact (h3.gb (gb_alloc (Below.refl _ _) _)).mono (by omega)
        refine ⟨?_, HN.out, ?_, ?_, ?_, ?_, ?_, ?_, ?_, ?_, ?_, X.out.sb, ?_, ?_⟩
        · exact gb_set (below_grown (gb_trans X.out.gb GVa.out) hgrow5 (fun k e => by have := HOB.out _ e; omega) (gb_trans X.out.gb GVa.out).size) (by dsimp only; omega) _
        · exact far (by omega) (by omega) X.out.box
        · rw [hN]; exact set_off (b5 (by have := X.out.b0; rw [hN] at this; exact this)) (by decide)
        · rw [hN]; exact set_off (b5 (by have := X.out.b1; rw [hN] at this; exact this)) (by decide)
        · rw [hN]; exact World.cell?_setCell_same _ _ _ bw
        · rw [hN]; exact frz (by omega) BBH.out.2
        · exact ⟨far (by omega) (by omega) X.out.r0.1, far (by omega) (by omega) X.out.r0.2.1, far (by omega) (by omega) X.out.r0.2.2⟩
        · exact ⟨frz (by omega) X.out.rf.1, frz (by omega) X.out.rf.2.1, frz (by omega) X.out.rf.2.2⟩
        · have h0 := X.out.oh
          have h1 := World.ownsRow.kept h0 (row := none) ⟨GVa.out.os, GVa.out.tape, GVa.out.output, GVa.out.size, fun k hk _ => GVa.out.block k hk⟩ (by cases hv : uh.ownBlock <;> simp)
          have h2 := World.ownsRow.kept h1 hgrow5 (own_ty_ne h1 hV (by decide))
          exact World.ownsRow.kept h2 (grown_set _) (own_num_ne h2 (by omega))
        · have h1 := X.out.os.gb GVa.out
          have h2 := h1.kept hgrow5 (own_ty_ne h1 hV (by decide))
          exact h2.kept (grown_set _) (own_num_ne h2 (by omega))
        · rw [TK.out.1]
          refine OwnL.snoc (xs := xs) (vl := .slice j1 L.length k1) (vh := .slice j2 H.length k2) (vi := .slice j3 I.length k3) (fun i hi' => ?_) (by rw [TK.out.2]; exact hxl.out) ?_ (inn oa') (inn ob') (inn oc')
          · obtain ⟨vl, vh, vi, e0, e1, e2, e3, e4, e5, o1, o2, o3⟩ := HC.out i hi'
            exact ⟨vl, vh, vi, e0, e1, e2, e3, e4, e5, inn (o1.gb GVa.out), inn (o2.gb GVa.out), inn (o3.gb GVa.out)⟩
          · rw [TK.out.2]
            have h2 := World.ownsRow.kept hown5 (grown_set (b := w.heap.size + 1 + 1) (o := 2) (.slice vx (t + 1) vc)) (own_num_ne hown5 (by omega))
            rw [HRR.out.1, HRR.out.2] at h2
            exact h2
        · have h1 := hgrow5.size
          have h2 := GVa.out.size
          exact ⟨sz.1, by rw [World.size_setCell]; omega⟩
      clear hown5 hgrow5 hnil5 hloc5 hblk GB GC GA GV bv xc0 xc1 xc2 xc3 xc4 xc5 xb0 xb1 xb2 xb3 xb4 xb5 xa0 xa1 xa2 xa3 xa4 xa5 xf1 xf2 xf5 ra2 ra5 rb5 oa ob oc ga gbb gcc hWx c0 c1 c2 c3 c4 c5 bx bb bf X
      go_wp2
      go_roundw
      case rel => exact ⟨t + 1, _, by first | rfl | go_num, htn, XN.out⟩
      case measure => simp [intOf]; omega
    · have hti : ¬ (t : Int) < (n5 : Int) := by omega
      have et : a.rest.take t = a.rest := List.take_of_length_le (by have := NN.out; omega)
      obtain ⟨⟨hx, hy, hz, rfl⟩, ⟨sx, sy, sz, rfl⟩⟩ := SHP.out
      have hor := X.out.or
      rw [et] at hor
      obtain ⟨ux, uc, eur⟩ : ∃ x c, ur = .slice x a.rest.length c := by
        obtain ⟨xs, ho, _⟩ := hor
        exact row_fm ho
      subst eur
      have OR : Hid (OwnL wr (N + 3) B2 (.slice ux a.rest.length uc) a.rest) := hor
      clear hor et
      generalize a.rest.length = m5 at *
      have b0 := X.out.b0
      have b1 := X.out.b1
      have b2 := X.out.b2
      have q := X.out.r0
      have qf := X.out.rf
      rw [HN.out] at b0 b1 b2 q qf
      obtain ⟨q0, q1, q2⟩ := q
      obtain ⟨qf0, qf1, qf2⟩ := qf
      have FIN : Hid (∀ W, (wr.grownBy W (some (w.heap.size + 1))) → LnOut w a (.returned (.agg #[.slice hx hy hz, .slice sx sy sz, .slice ux m5 uc])) W) := fun W g => by
        have hN := HN.out
        have ne : ∀ {B n size : Nat} {e : TypeId} {v : Value} {xs : List Value}, N + 3 ≤ B → wr.ownsRow B e size v n xs → v.ownBlock = none ∨ v.ownBlock ≠ some (w.heap.size + 1) := fun {B n size e v xs} hB h => by
          cases hv : v.ownBlock with
          | none => exact .inl rfl
          | some k =>
            refine .inr fun e' => ?_
            injection e' with e'
            have := (h.lt k hv).1
            omega
        refine ⟨_, _, _, N + 3, B2, rfl, ?_, by omega, World.ownsRow.kept X.out.oh g (ne (Nat.le_refl _) X.out.oh), World.ownsRow.kept X.out.os g (ne (Nat.le_refl _) X.out.os), X.out.sb, ?_⟩
        · exact below_grown X.out.gb g (fun k e => by injection e with e; omega) X.out.gb.size
        · refine OR.out.kept g ?_ (fun k e => .inl (by injection e with e; have := X.out.sz; omega))
          obtain ⟨xs, ho, _⟩ := OR.out
          exact ne (Nat.le_refl _) ho
      clear X
      go_wp2
      refine bodyPost_ret (v := .agg #[.slice hx hy hz, .slice sx sy sz, .slice ux m5 uc]) (by simp [results, Tryz.results8, go_sem, q0, q1, q2]) rfl (FIN.out _ ?_)
      have k : Tk.Kp (fun k => k = w.heap.size + 1) wr (((wr.setCell ⟨w.heap.size + 1, 0, none⟩ (.slice hx hy hz)).setCell ⟨w.heap.size + 1, 1, none⟩ (.slice sx sy sz)).setCell ⟨w.heap.size + 1, 2, none⟩ (.slice ux m5 uc)) :=
        (((Tk.Kp.refl (fun k => k = w.heap.size + 1) wr).setCell (p := ⟨w.heap.size + 1, 0, none⟩) (.inl rfl) _).setCell (p := ⟨w.heap.size + 1, 1, none⟩) (.inl rfl) _).setCell (p := ⟨w.heap.size + 1, 2, none⟩) (.inl rfl) _
      exact ⟨k.os, k.tape, k.output, k.size, fun i hi' hn => k.block i hi' (fun e => hn (by rw [e]))⟩
end Go.Proofs.YtdmdjmliggjbjaaGreat
