/- The reference's Same; the law's lend and back. -/
import Derived.Test.YthgbhlbanepahaaKRefN
import Derived.Test.YthgbhlbanepahaaBack
import Derived.Test.YthgbhlbanepahaaRSame
namespace Go.Proofs.Ythgbhlbanepahaa
open Go.RowKit Go.Maps Go.Sort

set_option maxRecDepth 100000 in
set_option maxHeartbeats 1000000 in
theorem rsameV_c {w : World} {u v : Value} {vs : Vs} (hu : RdV w u vs) (hv : RdV w v vs) (hn : vs.length ≤ 512) (hl : ∀ i, i < vs.length → vs[i]!.length ≤ 64) :
    Calls Try.prog 9 #[u, v] w fun e w' => e = .returned (.bool true) ∧ Gb w w' := by
  have U : Hid (RdV w u vs) := hu
  have V : Hid (RdV w v vs) := hv
  have HL : Hid (∀ i, i < vs.length → vs[i]!.length ≤ 64) := hl
  obtain ⟨a1, c1, rfl, _⟩ := hu
  obtain ⟨a2, c2, rfl, _⟩ := hv
  obtain ⟨n, hN⟩ : ∃ n, n = vs.length := ⟨_, rfl⟩
  have NN : Hid (n = vs.length) := hN
  rw [← hN] at U V hn ⊢
  clear hN hl
  go_enter Try.func9, Try.ntmps9
  go_wp2
  go_loopw [5] (fun iv W => ∃ p : Nat, iv = .int .i64 (p : Int) ∧ p ≤ n ∧ Hid (Gb w W)) (fun iv _ => n - (intOf iv).toNat)
  case atStart => exact ⟨0, rfl, Nat.zero_le _, Below.refl _ _⟩
  case round =>
    obtain ⟨p, rfl, hp, X⟩ := hrel
    by_cases hpn : p < n
    · have hpi : (p : Int) < (n : Int) := by omega
      have hpl : p < vs.length := by have := NN.out; omega
      obtain ⟨_, _, e1, hA⟩ := U.out
      obtain ⟨b1, o1, u1, ea, k1, k2⟩ := hA p hpl
      obtain ⟨_, _, e2, hB⟩ := V.out
      obtain ⟨b2, o2, u2, eb, q1, q2⟩ := hB p hpl
      injection e1 with e3 e4 e5
      injection e2 with e6 e7 e8
      subst e3; subst e6; subst ea; subst eb
      have GX : Hid (Gb w wr.drew) := X.out.drew
      have cS := rints_v (k2.gb GX.out) (q2.gb GX.out) (by have := HL.out p hpl; omega) true (by simp)
      have FS0 : wr.drew.cell? ⟨b1, o1 + p, none⟩ = some u1 ∧ wr.drew.cell? ⟨b2, o2 + p, none⟩ = some u2 := ⟨gb_keeps GX.out k1, gb_keeps GX.out q1⟩
      obtain ⟨x1, y1, ex, _⟩ := k2
      obtain ⟨x2, y2, ey, _⟩ := q2
      subst ex; subst ey
      generalize vs[p]!.length = np at *
      generalize hu1 : Value.slice x1 np y1 = u1 at *
      generalize hu2 : Value.slice x2 np y2 = u2 at *
      clear hA hB e4 e5 e7 e8 k1 q1 hpl hu1 hu2
      go_wp2_with fail
      refine wp_region_held_drew (S := fun W => W.cell? ⟨b1, o1 + p, none⟩ = some u1 ∧ W.cell? ⟨b2, o2 + p, none⟩ = some u2) (by kernel_rfl) (FS0) (fun hHeld => ?_)
      refine wpAnyH_take (i := 0) (v := ?_) rfl (by kernel_rfl) (by kernel_rfl) (by kernel_rfl) (fun _ _ _ h => h) (Or.inl ⟨by rfl, ?_⟩) (by assumption) ?_
      rotate_left 1
      · (intro w hSw; (obtain ⟨s0, s1⟩ := hSw); go_simp; try with_reducible rfl)
      try simp only [Act.put, List.getElem_toArray, List.getElem_cons_zero, List.setIfInBounds_toArray, List.set_cons_zero, List.set_cons_succ]
      refine wpAnyH_take (i := 1) (v := ?_) rfl (by kernel_rfl) (by kernel_rfl) (by kernel_rfl) (fun _ _ _ h => h) (Or.inl ⟨by rfl, ?_⟩) (by assumption) ?_
      rotate_left 1
      · (intro w hSw; (obtain ⟨s0, s1⟩ := hSw); go_simp; try with_reducible rfl)
      try simp only [Act.put, List.getElem_toArray, List.getElem_cons_zero, List.getElem_cons_succ, List.setIfInBounds_toArray, List.set_cons_zero, List.set_cons_succ]
      refine wpAnyH_take (i := 2) (v := ?_) rfl (by kernel_rfl) (by kernel_rfl) (by kernel_rfl) (fun _ _ _ h => h) (Or.inl ⟨by rfl, ?_⟩) (by assumption) ?_
      rotate_left 1
      · (intro w hSw; (obtain ⟨s0, s1⟩ := hSw); go_simp; try with_reducible rfl)
      try simp only [Act.put, List.getElem_toArray, List.getElem_cons_zero, List.getElem_cons_succ, List.setIfInBounds_toArray, List.set_cons_zero, List.set_cons_succ]
      refine wpAnyH_take (i := 3) (v := ?_) rfl (by kernel_rfl) (by kernel_rfl) (by kernel_rfl) (fun _ _ _ h => h) (Or.inl ⟨by rfl, ?_⟩) (by assumption) ?_
      rotate_left 1
      · (intro w hSw; (obtain ⟨s0, s1⟩ := hSw); go_simp; try with_reducible rfl)
      try simp only [Act.put, List.getElem_toArray, List.getElem_cons_zero, List.getElem_cons_succ, List.setIfInBounds_toArray, List.set_cons_zero, List.set_cons_succ]
      refine wpAnyH_take (i := 4) (v := ?_) rfl (by kernel_rfl) (by kernel_rfl) (by kernel_rfl) (fun _ _ _ h => h) (Or.inl ⟨by rfl, ?_⟩) (by assumption) ?_
      rotate_left 1
      · (intro w hSw; (obtain ⟨s0, s1⟩ := hSw); go_simp; try with_reducible rfl)
      try simp only [Act.put, List.getElem_toArray, List.getElem_cons_zero, List.getElem_cons_succ, List.setIfInBounds_toArray, List.set_cons_zero, List.set_cons_succ]
      refine wpAnyH_take (i := 5) (v := ?_) rfl (by kernel_rfl) (by kernel_rfl) (by kernel_rfl) (fun _ _ _ h => h) (Or.inl ⟨by rfl, ?_⟩) (by assumption) ?_
      rotate_left 1
      · (intro w hSw; (obtain ⟨s0, s1⟩ := hSw); go_simp; try with_reducible rfl)
      try simp only [Act.put, List.getElem_toArray, List.getElem_cons_zero, List.getElem_cons_succ, List.setIfInBounds_toArray, List.set_cons_zero, List.set_cons_succ]
      refine wpAnyH_take (i := 6) (v := ?_) rfl (by kernel_rfl) (by kernel_rfl) (by kernel_rfl) (fun _ _ _ h => h) (Or.inl ⟨by rfl, ?_⟩) (by assumption) ?_
      rotate_left 1
      · (intro w hSw; (obtain ⟨s0, s1⟩ := hSw); go_simp; try with_reducible rfl)
      try simp only [Act.put, List.getElem_toArray, List.getElem_cons_zero, List.getElem_cons_succ, List.setIfInBounds_toArray, List.set_cons_zero, List.set_cons_succ]
      refine wpAnyH_take (i := 7) (v := ?_) rfl (by kernel_rfl) (by kernel_rfl) (by kernel_rfl) (fun _ _ _ h => h) (Or.inl ⟨by rfl, ?_⟩) (by assumption) ?_
      rotate_left 1
      · (intro w hSw; (obtain ⟨s0, s1⟩ := hSw); go_simp; try with_reducible rfl)
      try simp only [Act.put, List.getElem_toArray, List.getElem_cons_zero, List.getElem_cons_succ, List.setIfInBounds_toArray, List.set_cons_zero, List.set_cons_succ]
      refine wpAnyH_ready (rs := [8]) (by kernel_rfl) (by simp) ?_
      refine AllReadyH.cons rfl (fun K hK => ?_) AllReadyH.nil
      go_simp
      go_fit cS
      rintro e w4 ⟨rfl, g4⟩
      refine hK.out _ _ (⟨g4.keeps hHeld.1, g4.keeps hHeld.2⟩) (fun hHeld => ?_)
      clear hK K
      try simp only [Act.put, List.getElem_toArray, List.getElem_cons_zero, List.getElem_cons_succ, List.setIfInBounds_toArray, List.set_cons_zero, List.set_cons_succ]
      refine wpAnyH_take (i := 9) (v := ?_) rfl (by kernel_rfl) (by kernel_rfl) (by kernel_rfl) (fun _ _ _ h => h) (Or.inl ⟨by rfl, ?_⟩) (by assumption) ?_
      rotate_left 1
      · (intro w hSw; (obtain ⟨s0, s1⟩ := hSw); go_simp; try with_reducible rfl)
      try simp only [Act.put, List.getElem_toArray, List.getElem_cons_zero, List.getElem_cons_succ, List.setIfInBounds_toArray, List.set_cons_zero, List.set_cons_succ]
      refine wpAnyH_done (by kernel_rfl) ?_ _
      go_wp2
      go_roundw
      case rel => exact ⟨p + 1, by first | rfl | go_num | simp, hpn, gb_trans GX.out g4.gb⟩
      case measure => simp [intOf]; omega
    · have hpi : ¬ (p : Int) < (n : Int) := by omega
      go_wp2
      go_ret
      exact ⟨rfl, X.out⟩
theorem grown_cellV {W W' : World} {g : Nat} {p : Addr} {v : Value} (k : W.grownBy W' (some g)) (hc : W.cell? p = some v) (hn : p.block ≠ g) : W'.cell? p = some v :=
  (World.cell?_of_block (k.block p.block (World.block_lt_of_cell? W p hc) (by simp; omega))).trans hc

/-- Vectors that are lent: block G has m places, p of them are laid, vector i in block gs i. -/
structure LV (w W : World) (G m : Nat) (l : Vs) (p : Nat) (gs : Nat → Nat) : Prop where
  gb : Gb w W
  hG : w.heap.size ≤ G
  arr : ∃ cur : Array Value, W.heap[G]? = some (.cells cur 30 (0, 0)) ∧ cur.size = m ∧ ∀ i, i < p → cur[i]? = some (.slice (some ⟨gs i, 0, none⟩) l[i]!.length (l[i]!.length + 1))
  lent : ∀ i, i < p → Lent W (G + 1) (gs i) l[i]! ∧ ∀ j, j < i → gs j ≠ gs i
theorem Lent.lt' {W : World} {B g : Nat} {l : List Int} (h : Lent W B g l) : g < W.heap.size := (Array.getElem?_eq_some_iff.1 h.2).1
theorem LV.gr {w W W' : World} {G m p : Nat} {l : Vs} {gs : Nat → Nat} (h : LV w W G m l p gs) (g : Gb W W') : LV w W' G m l p gs := by
  obtain ⟨cur, h1, h2, h3⟩ := h.arr
  exact ⟨gb_trans h.gb g, h.hG, ⟨cur, (g.block G (Array.getElem?_eq_some_iff.1 h1).1).trans h1, h2, h3⟩, fun i hi => ⟨(h.lent i hi).1.gb g, (h.lent i hi).2⟩⟩
theorem LV.step {w W W2 : World} {G m p g' : Nat} {l : Vs} {gs : Nat → Nat} (h : LV w W G m l p gs) (hp : p < m) (g : Gb W W2) (L : Lent W2 W.heap.size g' l[p]!) :
    LV w (W2.setCell ⟨G, p, none⟩ (.slice (some ⟨g', 0, none⟩) l[p]!.length (l[p]!.length + 1))) G m l (p + 1) (fun i => if i = p then g' else gs i) := by
  have h2 := h.gr g
  obtain ⟨cur, c1, c2, c3⟩ := h2.arr
  obtain ⟨cur0, d1, _⟩ := h.arr
  have hGl : G < W.heap.size := (Array.getElem?_eq_some_iff.1 d1).1
  have hL := L.1
  refine ⟨gb_set h2.gb h.hG _, h.hG, ⟨cur.setIfInBounds p (.slice (some ⟨g', 0, none⟩) l[p]!.length (l[p]!.length + 1)), by simp [World.setCell, Array.getElem?_modify, c1], by simpa using c2, fun i hi => ?_⟩, fun i hi => ?_⟩
  · by_cases e : i = p
    · subst e; simp only [if_true]; rw [Array.getElem?_setIfInBounds_self_of_lt (by omega)]
    · simp only [if_neg e]; rw [Array.getElem?_setIfInBounds_ne (by omega)]; exact c3 i (by omega)
  · have far : ∀ {b : Nat} {x : List Int}, Lent W2 (G + 1) b x → Lent (W2.setCell ⟨G, p, none⟩ (.slice (some ⟨g', 0, none⟩) l[p]!.length (l[p]!.length + 1))) (G + 1) b x := fun {b x} hb =>
      ⟨hb.1, (Below.heap_setCell _ _ _ _ (by dsimp only; have := hb.1; omega)).trans hb.2⟩
    by_cases e : i = p
    · subst e
      simp only [if_true]
      refine ⟨far ⟨by omega, L.2⟩, fun j hj => ?_⟩
      rw [if_neg (by omega)]
      have := (h.lent j hj).1.lt'
      omega
    · simp only [if_neg e]
      obtain ⟨k1, k2⟩ := h2.lent i (by omega)
      refine ⟨far k1, fun j hj => ?_⟩
      rw [if_neg (by omega)]
      exact k2 j hj
/-- All are lent, the mark too. -/
structure LentV (w W : World) (G : Nat) (l : Vs) (gs : Nat → Nat) (gm : Nat) : Prop where
  lv : LV w W G (l.length + 1) l l.length gs
  mark : W.cell? ⟨G, l.length, none⟩ = some (.slice (some ⟨gm, 0, none⟩) 1 1)
  seven : W.cell? ⟨gm, 0, none⟩ = some (.int .i64 (-77))
  far : ∀ i, i < l.length → gs i ≠ gm
  hgm : G < gm
theorem LentV.gr {w W W' : World} {G gm : Nat} {l : Vs} {gs : Nat → Nat} (h : LentV w W G l gs gm) (g : Gb W W') : LentV w W' G l gs gm := ⟨h.lv.gr g, gb_keeps g h.mark, gb_keeps g h.seven, h.far, h.hgm⟩
theorem LentV.rd {w W : World} {G gm : Nat} {l : Vs} {gs : Nat → Nat} (h : LentV w W G l gs gm) : RdV W (.slice (some ⟨G, 0, none⟩) l.length (l.length + 1)) l := by
  obtain ⟨cur, c1, _, c3⟩ := h.lv.arr
  refine ⟨_, _, rfl, fun i hi => ⟨G, 0, _, rfl, ?_, (h.lv.lent i hi).1.rd⟩⟩
  simp [World.cell?, c1, c3 i hi]
theorem LV.mark {w W : World} {G : Nat} {l : Vs} {gs : Nat → Nat} (h : LV w W G (l.length + 1) l l.length gs) :
    LentV w ((W.alloc (.cells #[.int .i64 (-77)] 3)).setCell ⟨G, l.length, none⟩ (.slice (some ⟨W.heap.size, 0, none⟩) 1 1)) G l gs W.heap.size := by
  have h2 := h.gr (gb_alloc (Below.refl W.heap.size W) (.cells #[.int .i64 (-77)] 3))
  obtain ⟨cur, c1, c2, c3⟩ := h2.arr
  obtain ⟨cur0, d1, _⟩ := h.arr
  have hGl : G < W.heap.size := (Array.getElem?_eq_some_iff.1 d1).1
  have hset : ((W.alloc (.cells #[.int .i64 (-77)] 3)).setCell ⟨G, l.length, none⟩ (.slice (some ⟨W.heap.size, 0, none⟩) 1 1)).heap[G]? = some (.cells (cur.setIfInBounds l.length (.slice (some ⟨W.heap.size, 0, none⟩) 1 1)) 30 (0, 0)) := by simp [World.setCell, Array.getElem?_modify, c1]
  refine ⟨⟨gb_set h2.gb h.hG _, h.hG, ⟨_, hset, by simpa using c2, fun i hi => ?_⟩, fun i hi => ?_⟩, ?_, ?_, fun i hi => ?_, hGl⟩
  · rw [Array.getElem?_setIfInBounds_ne (by omega)]; exact c3 i hi
  · obtain ⟨k1, k2⟩ := h2.lent i hi
    exact ⟨⟨k1.1, (Below.heap_setCell _ _ _ _ (by dsimp only; have := k1.1; omega)).trans k1.2⟩, k2⟩
  · simp only [World.cell?, hset]
    simp [Array.getElem?_setIfInBounds_self_of_lt (show l.length < cur.size by omega)]
  · rw [World.cell?_setCell_far _ _ _ _ (by dsimp only; omega)]
    simp [go_sem]
  · have := (h.lent i hi).1.lt'
    omega
set_option maxRecDepth 100000 in
set_option maxHeartbeats 1000000 in
theorem lendV_c {w : World} {v : Value} {l : Vs} (hv : RdV w v l) (hn : l.length ≤ 65536) (hr : ∀ i, i < l.length → l[i]!.length ≤ 65536) :
    Calls Try.prog 5 #[v] w fun e w' => ∃ G gs gm, e = .returned (.slice (some ⟨G, 0, none⟩) l.length (l.length + 1)) ∧ LentV w w' G l gs gm := by
  have V : Hid (RdV w v l) := hv
  have HR : Hid (∀ i, i < l.length → l[i]!.length ≤ 65536) := hr
  obtain ⟨a, cap, rfl, _⟩ := hv
  obtain ⟨n, hN⟩ : ∃ n, n = l.length := ⟨_, rfl⟩
  obtain ⟨m, hM⟩ : ∃ m, m = n + 1 := ⟨_, rfl⟩
  have NN : Hid (n = l.length ∧ m = n + 1) := ⟨hN, hM⟩
  have hm : (n : Int) + 1 = (m : Int) := by omega
  have hnm : (n : Int) < (m : Int) := by omega
  have hnm2 : n ≤ m := by omega
  have hnm3 : (n : Int) ≤ (m : Int) := by omega
  rw [← hN] at V hn ⊢
  rw [← hM]
  have hmk := run_make_row' (P := Try.prog) 22 30 (.slice none 0 0) 24 Try.underlying22 Try.infoV rfl .i64 .i64 m (by omega) (by omega) w
  have A0 : Hid (∃ gs, LV w (w.alloc (.cells (madeCells #[Value.slice none 0 0] m) 30)) w.heap.size m l 0 gs) :=
    ⟨fun _ => 0, gb_alloc (Below.refl _ _) _, Nat.le_refl _, ⟨_, World.alloc_heap_new w _, size_madeCells _ _, fun i hi => absurd hi (Nat.not_lt_zero _)⟩, fun i hi => absurd hi (Nat.not_lt_zero _)⟩
  generalize w.alloc (.cells (madeCells #[Value.slice none 0 0] m) 30) = V0 at *
  clear hr hN hM
  go_enter Try.func5, Try.ntmps5
  go_wp2
  clear hmk
  obtain ⟨G, hG⟩ : ∃ G, G = w.heap.size := ⟨_, rfl⟩
  rw [← hG] at A0 ⊢
  have GG : Hid (G = w.heap.size) := hG
  clear hG
  go_loopw [4] (fun iv W => ∃ p : Nat, iv = .int .i64 (p : Int) ∧ p ≤ n ∧ Hid (∃ gs, LV w W G m l p gs)) (fun iv _ => n - (intOf iv).toNat)
  case atStart => exact ⟨0, rfl, Nat.zero_le _, A0⟩
  case round =>
    clear A0
    obtain ⟨p, rfl, hp, X⟩ := hrel
    by_cases hpn : p < n
    · have hpi : (p : Int) < (n : Int) := by omega
      have hpm : (p : Int) < (m : Int) := by omega
      have hpl : p < l.length := by have := NN.out; omega
      obtain ⟨gs, hX⟩ := X.out
      obtain ⟨_, _, ev, hA⟩ := V.out
      obtain ⟨b, o, ur, ea, k1, k2⟩ := hA p hpl
      injection ev with ev1 ev2 ev3
      subst ev1
      subst ea
      have k1 := gb_keeps hX.gb k1
      have cl := lend_c (k2.gb hX.gb) (HR.out p hpl)
      have XH : Hid (LV w wr G m l p gs) := hX
      obtain ⟨pu, cu, eu, _⟩ := k2
      subst eu
      obtain ⟨np, hnp⟩ : ∃ np, np = l[p]!.length := ⟨_, rfl⟩
      obtain ⟨np1, hnp1⟩ : ∃ np1, np1 = np + 1 := ⟨_, rfl⟩
      have NP : Hid (np = l[p]!.length ∧ np1 = np + 1) := ⟨hnp, hnp1⟩
      rw [← hnp] at k1 cl
      rw [← hnp1] at cl
      clear hA ev2 ev3 hpl hnp hnp1 hX
      go_wp2_with fail
      go_fit cl
      rintro e w2 ⟨g', rfl, L2, g2⟩
      have XN : Hid (∃ gs', LV w (w2.setCell ⟨G, p, none⟩ (.slice (some ⟨g', 0, none⟩) np np1)) G m l (p + 1) gs') := by
        have := XH.out.step (by omega) g2 L2
        rw [← NP.out.1, ← NP.out.2] at this
        exact ⟨_, this⟩
      obtain ⟨cur, c1, c2, _⟩ := (XH.out.gr g2).arr
      have hlt : p < cur.size := by omega
      have c0 : w2.cell? ⟨G, p, none⟩ = some cur[p] := by simp [World.cell?, c1, Array.getElem?_eq_getElem hlt]
      have f0 : w2.frozen? ⟨G, p, none⟩ = false := by simp [World.frozen?, c1]
      generalize cur[p] = z at c0
      clear cl L2 g2 c1 c2 hlt k1
      go_wp2
      go_roundw
      case rel => exact ⟨p + 1, by first | rfl | go_num | simp, hpn, XN⟩
      case measure => simp [intOf]; omega
    · have hpi : ¬ (p : Int) < (n : Int) := by omega
      have XE : Hid (∃ gs, LV w wr G (l.length + 1) l l.length gs) := by
        have h := X.out
        rw [show p = l.length by have := NN.out; omega, show m = l.length + 1 by have := NN.out; omega] at h
        exact h
      obtain ⟨gs, hX⟩ := XE.out
      obtain ⟨cur, c1, c2, _⟩ := (hX.gr (gb_alloc (Below.refl wr.heap.size wr) (.cells #[.int .i64 (-77)] 3))).arr
      have hlt : n < cur.size := by have := NN.out; omega
      have c0 : (wr.alloc (.cells #[.int .i64 (-77)] 3)).cell? ⟨G, n, none⟩ = some cur[n] := by simp [World.cell?, c1, Array.getElem?_eq_getElem hlt]
      have f0 : (wr.alloc (.cells #[.int .i64 (-77)] 3)).frozen? ⟨G, n, none⟩ = false := by simp [World.frozen?, c1]
      generalize cur[n] = z at c0
      have R : Hid (LentV w ((wr.alloc (.cells #[.int .i64 (-77)] 3)).setCell ⟨G, n, none⟩ (.slice (some ⟨wr.heap.size, 0, none⟩) 1 1)) G l gs wr.heap.size) := by
        have := hX.mark
        rw [← NN.out.1] at this
        exact this
      clear hX c1 c2 hlt X
      go_wp2
      go_ret
      exact ⟨G, rfl, gs, _, R.out⟩
set_option maxRecDepth 100000 in
set_option maxHeartbeats 1000000 in
theorem backV_c {w0 w : World} {G gm : Nat} {gs : Nat → Nat} {v : Value} {l : Vs} (hL : LentV w0 w G l gs gm) (hv : RdV w0 v l) (hn : l.length ≤ 65536) (hr : ∀ i, i < l.length → l[i]!.length ≤ 65536) :
    Calls Try.prog 7 #[.slice (some ⟨G, 0, none⟩) l.length (l.length + 1), v] w fun e w' => e = .returned (.bool true) ∧ Kp (Gs gs l.length) w w' := by
  have V : Hid (RdV w0 v l) := hv
  have LH : Hid (LentV w0 w G l gs gm) := hL
  have HR : Hid (∀ i, i < l.length → l[i]!.length ≤ 65536) := hr
  have mk := hL.mark
  have sv := hL.seven
  obtain ⟨a, cap, rfl, _⟩ := hv
  obtain ⟨n, hN⟩ : ∃ n, n = l.length := ⟨_, rfl⟩
  obtain ⟨m, hM⟩ : ∃ m, m = n + 1 := ⟨_, rfl⟩
  have NN : Hid (n = l.length ∧ m = n + 1) := ⟨hN, hM⟩
  have hm : (n : Int) + 1 = (m : Int) := by omega
  have hnm : (n : Int) < (m : Int) := by omega
  have hmm : (m : Int) ≤ (m : Int) := Int.le_refl _
  rw [← hN] at V hn mk ⊢
  rw [← hM]
  clear hr hN hM hL
  go_enter Try.func7, Try.ntmps7
  go_wp2
  clear mk sv
  go_loopw [6, 7] (fun ok iv W => ∃ p : Nat, ok = .bool true ∧ iv = .int .i64 (p : Int) ∧ p ≤ n ∧ Hid (Kp (Gs gs l.length) w W ∧ ∀ i, p ≤ i → i < l.length → Lent W (G + 1) (gs i) l[i]!)) (fun _ iv _ => n - (intOf iv).toNat)
  case atStart => exact ⟨0, rfl, rfl, Nat.zero_le _, Kp.refl _ _, fun i _ hi => (LH.out.lv.lent i hi).1⟩
  case round =>
    obtain ⟨p, rfl, rfl, hp, X⟩ := hrel
    by_cases hpn : p < n
    · have hpi : (p : Int) < (n : Int) := by omega
      have hpm : (p : Int) < (m : Int) := by omega
      have hpl : p < l.length := by have := NN.out; omega
      have GW : Hid (Gb w0 wr) := X.out.1.below LH.out.lv.gb (fun b ⟨i, hi, e⟩ => by have h1 := (LH.out.lv.lent i hi).1.1; have h2 := LH.out.lv.hG; omega)
      obtain ⟨_, _, ev, hA⟩ := V.out
      obtain ⟨b2, o2, u2, ea, k1, k2⟩ := hA p hpl
      injection ev with ev1 ev2 ev3
      subst ev1
      subst ea
      have hb2 : b2 < w0.heap.size := World.block_lt_of_cell? w0 _ k1
      have cB := back_c (w := wr.drew) (X.out.2 p (Nat.le_refl _) hpl) (k2.gb GW.out.drew) (HR.out p hpl)
      obtain ⟨np, hnp⟩ : ∃ np, np = l[p]!.length := ⟨_, rfl⟩
      obtain ⟨m1, hm1⟩ : ∃ m1, m1 = np + 1 := ⟨_, rfl⟩
      have cG : w.cell? ⟨G, p, none⟩ = some (.slice (some ⟨gs p, 0, none⟩) np m1) := by
        obtain ⟨cur, c1, _, c3⟩ := LH.out.lv.arr
        rw [hm1, hnp]
        simp [World.cell?, c1, c3 p hpl]
      have hGg : G < gs p := by have := (LH.out.lv.lent p hpl).1.1; omega
      have hGb : G ≠ b2 := by have := LH.out.lv.hG; omega
      have hbg : b2 ≠ gs p := by have := LH.out.lv.hG; omega
      have nG : ¬ Gs gs l.length G := fun ⟨i, hi, e⟩ => by have h1 := (LH.out.lv.lent i hi).1.1; omega
      have FS0 : wr.drew.cell? ⟨G, p, none⟩ = some (.slice (some ⟨gs p, 0, none⟩) np m1) ∧ wr.drew.cell? ⟨b2, o2 + p, none⟩ = some u2 := ⟨X.out.1.cell cG nG, gb_keeps GW.out k1⟩
      rw [← hnp, ← hm1] at cB
      obtain ⟨x2, y2, ey, _⟩ := k2
      subst ey
      rw [← hnp] at FS0 cB
      generalize hu2 : Value.slice x2 np y2 = u2 at *
      have PG : Hid (Gs gs l.length (gs p) ∧ p < l.length) := ⟨⟨p, hpl, rfl⟩, hpl⟩
      clear hA ev2 ev3 k1 hpl hu2 cG nG hnp hm1
      go_wp2_with fail
      refine wp_region_held_drew (S := fun W => W.cell? ⟨G, p, none⟩ = some (.slice (some ⟨gs p, 0, none⟩) np m1) ∧ W.cell? ⟨b2, o2 + p, none⟩ = some u2) (by kernel_rfl) (FS0) (fun hHeld => ?_)
      refine wpAnyH_take (i := 0) (v := ?_) rfl (by kernel_rfl) (by kernel_rfl) (by kernel_rfl) (fun _ _ _ h => h) (Or.inl ⟨by rfl, ?_⟩) (by assumption) ?_
      rotate_left 1
      · (intro w hSw; (obtain ⟨s0, s1⟩ := hSw); go_simp; try with_reducible rfl)
      try simp only [Act.put, List.getElem_toArray, List.getElem_cons_zero, List.setIfInBounds_toArray, List.set_cons_zero, List.set_cons_succ]
      refine wpAnyH_take (i := 1) (v := ?_) rfl (by kernel_rfl) (by kernel_rfl) (by kernel_rfl) (fun _ _ _ h => h) (Or.inl ⟨by rfl, ?_⟩) (by assumption) ?_
      rotate_left 1
      · (intro w hSw; (obtain ⟨s0, s1⟩ := hSw); go_simp; try with_reducible rfl)
      try simp only [Act.put, List.getElem_toArray, List.getElem_cons_zero, List.getElem_cons_succ, List.setIfInBounds_toArray, List.set_cons_zero, List.set_cons_succ]
      refine wpAnyH_take (i := 2) (v := ?_) rfl (by kernel_rfl) (by kernel_rfl) (by kernel_rfl) (fun _ _ _ h => h) (Or.inl ⟨by rfl, ?_⟩) (by assumption) ?_
      rotate_left 1
      · (intro w hSw; (obtain ⟨s0, s1⟩ := hSw); go_simp; try with_reducible rfl)
      try simp only [Act.put, List.getElem_toArray, List.getElem_cons_zero, List.getElem_cons_succ, List.setIfInBounds_toArray, List.set_cons_zero, List.set_cons_succ]
      refine wpAnyH_take (i := 3) (v := ?_) rfl (by kernel_rfl) (by kernel_rfl) (by kernel_rfl) (fun _ _ _ h => h) (Or.inl ⟨by rfl, ?_⟩) (by assumption) ?_
      rotate_left 1
      · (intro w hSw; (obtain ⟨s0, s1⟩ := hSw); go_simp; try with_reducible rfl)
      try simp only [Act.put, List.getElem_toArray, List.getElem_cons_zero, List.getElem_cons_succ, List.setIfInBounds_toArray, List.set_cons_zero, List.set_cons_succ]
      refine wpAnyH_take (i := 4) (v := ?_) rfl (by kernel_rfl) (by kernel_rfl) (by kernel_rfl) (fun _ _ _ h => h) (Or.inl ⟨by rfl, ?_⟩) (by assumption) ?_
      rotate_left 1
      · (intro w hSw; (obtain ⟨s0, s1⟩ := hSw); go_simp; try with_reducible rfl)
      try simp only [Act.put, List.getElem_toArray, List.getElem_cons_zero, List.getElem_cons_succ, List.setIfInBounds_toArray, List.set_cons_zero, List.set_cons_succ]
      refine wpAnyH_take (i := 5) (v := ?_) rfl (by kernel_rfl) (by kernel_rfl) (by kernel_rfl) (fun _ _ _ h => h) (Or.inl ⟨by rfl, ?_⟩) (by assumption) ?_
      rotate_left 1
      · (intro w hSw; (obtain ⟨s0, s1⟩ := hSw); go_simp; try with_reducible rfl)
      try simp only [Act.put, List.getElem_toArray, List.getElem_cons_zero, List.getElem_cons_succ, List.setIfInBounds_toArray, List.set_cons_zero, List.set_cons_succ]
      refine wpAnyH_take (i := 6) (v := ?_) rfl (by kernel_rfl) (by kernel_rfl) (by kernel_rfl) (fun _ _ _ h => h) (Or.inl ⟨by rfl, ?_⟩) (by assumption) ?_
      rotate_left 1
      · (intro w hSw; (obtain ⟨s0, s1⟩ := hSw); go_simp; try with_reducible rfl)
      try simp only [Act.put, List.getElem_toArray, List.getElem_cons_zero, List.getElem_cons_succ, List.setIfInBounds_toArray, List.set_cons_zero, List.set_cons_succ]
      refine wpAnyH_take (i := 7) (v := ?_) rfl (by kernel_rfl) (by kernel_rfl) (by kernel_rfl) (fun _ _ _ h => h) (Or.inl ⟨by rfl, ?_⟩) (by assumption) ?_
      rotate_left 1
      · (intro w hSw; (obtain ⟨s0, s1⟩ := hSw); go_simp; try with_reducible rfl)
      try simp only [Act.put, List.getElem_toArray, List.getElem_cons_zero, List.getElem_cons_succ, List.setIfInBounds_toArray, List.set_cons_zero, List.set_cons_succ]
      refine wpAnyH_take (i := 8) (v := ?_) rfl (by kernel_rfl) (by kernel_rfl) (by kernel_rfl) (fun _ _ _ h => h) (Or.inl ⟨by rfl, ?_⟩) (by assumption) ?_
      rotate_left 1
      · (intro w hSw; (obtain ⟨s0, s1⟩ := hSw); go_simp; try with_reducible rfl)
      try simp only [Act.put, List.getElem_toArray, List.getElem_cons_zero, List.getElem_cons_succ, List.setIfInBounds_toArray, List.set_cons_zero, List.set_cons_succ]
      refine wpAnyH_take (i := 9) (v := ?_) rfl (by kernel_rfl) (by kernel_rfl) (by kernel_rfl) (fun _ _ _ h => h) (Or.inl ⟨by rfl, ?_⟩) (by assumption) ?_
      rotate_left 1
      · (intro w hSw; (obtain ⟨s0, s1⟩ := hSw); go_simp; try with_reducible rfl)
      try simp only [Act.put, List.getElem_toArray, List.getElem_cons_zero, List.getElem_cons_succ, List.setIfInBounds_toArray, List.set_cons_zero, List.set_cons_succ]
      refine wpAnyH_ready (rs := [10]) (by kernel_rfl) (by simp) ?_
      refine AllReadyH.cons rfl (fun K hK => ?_) AllReadyH.nil
      go_simp
      go_fit cB
      rintro e w4 ⟨rfl, g4⟩
      refine hK.out _ _ (⟨grown_cellV g4 hHeld.1 (by dsimp only; omega), grown_cellV g4 hHeld.2 (by dsimp only; omega)⟩) (fun hHeld => ?_)
      clear hK K
      try simp only [Act.put, List.getElem_toArray, List.getElem_cons_zero, List.getElem_cons_succ, List.setIfInBounds_toArray, List.set_cons_zero, List.set_cons_succ]
      refine wpAnyH_take (i := 11) (v := ?_) rfl (by kernel_rfl) (by kernel_rfl) (by kernel_rfl) (fun _ _ _ h => h) (Or.inl ⟨by rfl, ?_⟩) (by assumption) ?_
      rotate_left 1
      · (intro w hSw; (obtain ⟨s0, s1⟩ := hSw); go_simp; try with_reducible rfl)
      try simp only [Act.put, List.getElem_toArray, List.getElem_cons_zero, List.getElem_cons_succ, List.setIfInBounds_toArray, List.set_cons_zero, List.set_cons_succ]
      refine wpAnyH_take (i := 12) (v := ?_) rfl (by kernel_rfl) (by kernel_rfl) (by kernel_rfl) (fun _ _ _ h => h) (Or.inl ⟨by rfl, ?_⟩) (by assumption) ?_
      rotate_left 1
      · (intro w hSw; (obtain ⟨s0, s1⟩ := hSw); go_simp; try with_reducible rfl)
      try simp only [Act.put, List.getElem_toArray, List.getElem_cons_zero, List.getElem_cons_succ, List.setIfInBounds_toArray, List.set_cons_zero, List.set_cons_succ]
      refine wpAnyH_done (by kernel_rfl) ?_ _
      have XN : Hid (Kp (Gs gs l.length) w w4 ∧ ∀ i, p + 1 ≤ i → i < l.length → Lent w4 (G + 1) (gs i) l[i]!) := by
        refine ⟨⟨g4.os.trans X.out.1.os, g4.tape.trans X.out.1.tape, g4.output.trans X.out.1.output, Nat.le_trans X.out.1.size g4.size, fun b hb hn => ?_⟩, fun i h1 h2 => ?_⟩
        · refine (g4.block b (Nat.lt_of_lt_of_le hb X.out.1.size) (fun e => hn ?_)).trans (X.out.1.block b hb hn)
          cases e
          exact PG.out.1
        · have h3 := X.out.2 i (by omega) h2
          have h4 : Lent wr.drew (G + 1) (gs i) l[i]! := h3
          exact h4.far g4 (fun e => (LH.out.lv.lent i h2).2 p (by omega) e.symm)
      go_wp2
      go_roundw
      case rel => exact ⟨p + 1, rfl, by first | rfl | go_num | simp, hpn, XN⟩
      case measure => simp [intOf]; omega
    · have hpi : ¬ (p : Int) < (n : Int) := by omega
      have K : Hid (Kp (Gs gs l.length) w wr) := X.out.1
      clear X
      go_wp2
      go_ret
      exact ⟨rfl, by have := K.out; rw [← NN.out.1] at this; exact this⟩
end Go.Proofs.Ythgbhlbanepahaa
