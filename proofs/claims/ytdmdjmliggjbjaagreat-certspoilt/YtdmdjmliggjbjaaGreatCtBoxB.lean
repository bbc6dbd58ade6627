/- vec.boxBound. -/
import Derived.Test.YtdmdjmliggjbjaaGreatCtReg
namespace Go.Proofs.YtdmdjmliggjbjaaGreat
open Go.RowKit

/-- The bound of a box. -/
def bxN (l h q : List Int) (n : Nat) : Nat := sumN (fun i => gap l[i]! h[i]! q[i]! * gap l[i]! h[i]! q[i]!) n
def bx (l h q : List Int) : Nat := bxN l h q q.length
theorem bxN_le {l h q : List Int} (hl : allR l = true) (hh : allR h = true) (hq : allR q = true) (h1 : l.length = q.length) (h2 : h.length = q.length) (n : Nat) (hn : n ≤ q.length) : bxN l h q n ≤ n * 18446744056529682436 :=
  sumN_le _ _ _ (fun i hi => sq_small _ (gap_le _ _ _ (allR_get hl (by omega)) (allR_get hh (by omega)) (allR_get hq (by omega))))
theorem bx_lt {l h q : List Int} (hl : allR l = true) (hh : allR h = true) (hq : allR q = true) (h1 : l.length = q.length) (h2 : h.length = q.length) (hn : q.length ≤ 64) : bx l h q < 340282366920938463463374607431768211456 := by
  have := bxN_le hl hh hq h1 h2 q.length (Nat.le_refl _)
  unfold bx; omega

theorem four_call {W w' : World} {p0 p1 p2 p3 : Addr} {v0 v1 v2 v3 : Value} (g : Gr W w') (h : W.cell? p0 = some v0 ∧ W.cell? p1 = some v1 ∧ W.cell? p2 = some v2 ∧ W.cell? p3 = some v3) :
    w'.cell? p0 = some v0 ∧ w'.cell? p1 = some v1 ∧ w'.cell? p2 = some v2 ∧ w'.cell? p3 = some v3 := ⟨g.keeps h.1, g.keeps h.2.1, g.keeps h.2.2.1, g.keeps h.2.2.2⟩
theorem set2_far {W : World} {b : Nat} {p : Addr} {v : Value} (hb : b ≠ p.block) (h : W.cell? p = some v) (x y : Value) : ((W.setCell ⟨b, 0, none⟩ x).setCell ⟨b, 1, none⟩ y).cell? p = some v := by
  rw [World.cell?_setCell_far _ _ _ _ hb, World.cell?_setCell_far _ _ _ _ hb]; exact h
theorem four_set {W : World} {b b1 b2 b0 o1 o2 o3 o4 : Nat} {v0 v1 v2 v3 : Value} (h1 : b ≠ b1) (h2 : b ≠ b2) (h0 : b ≠ b0) (h : W.cell? ⟨b1, o1, none⟩ = some v0 ∧ W.cell? ⟨b2, o2, none⟩ = some v1 ∧ W.cell? ⟨b0, o3, none⟩ = some v2 ∧ W.cell? ⟨b0, o4, none⟩ = some v3) (x y : Value) :
    ((W.setCell ⟨b, 0, none⟩ x).setCell ⟨b, 1, none⟩ y).cell? ⟨b1, o1, none⟩ = some v0 ∧ ((W.setCell ⟨b, 0, none⟩ x).setCell ⟨b, 1, none⟩ y).cell? ⟨b2, o2, none⟩ = some v1 ∧ ((W.setCell ⟨b, 0, none⟩ x).setCell ⟨b, 1, none⟩ y).cell? ⟨b0, o3, none⟩ = some v2 ∧ ((W.setCell ⟨b, 0, none⟩ x).setCell ⟨b, 1, none⟩ y).cell? ⟨b0, o4, none⟩ = some v3 :=
  ⟨set2_far h1 h.1 x y, set2_far h2 h.2.1 x y, set2_far h0 h.2.2.1 x y, set2_far h0 h.2.2.2 x y⟩

set_option maxHeartbeats 8000000 in
set_option maxRecDepth 100000 in
theorem boxBound_c {w : World} {v u : Value} {r : Reg} {a : List Int} (hv : RdR w v r) (hu : RdI w u a) (hl : r.L.length = a.length) (hh : r.H.length = a.length) (hn : a.length ≤ 64) (rl : allR r.L = true) (rh : allR r.H = true) (ra : allR a = true) :
    Calls Tryz.prog 97 #[v, u] w fun e w' => e = .returned (Wd (bx r.L r.H a)) ∧ Gr w w' := by
  obtain ⟨vl, vh, vi, rfl, ⟨pl, cl, rfl, el⟩, ⟨ph, ch, rfl, eh⟩, h3⟩ := hv
  obtain ⟨pa, ca, rfl, ea⟩ := hu
  clear h3
  have RA0 := RegAt.new w r (.slice pl r.L.length cl) (.slice ph r.H.length ch) vi
  obtain ⟨S, L, H, R, I⟩ := r
  dsimp only at *
  have AL : Hid (∀ i, i < L.length → ∃ b o, pl = some ⟨b, o, none⟩ ∧ w.cell? ⟨b, o + i, none⟩ = some (.int .i64 L[i]!)) := el
  have AH : Hid (∀ i, i < H.length → ∃ b o, ph = some ⟨b, o, none⟩ ∧ w.cell? ⟨b, o + i, none⟩ = some (.int .i64 H[i]!)) := eh
  have AA : Hid (∀ i, i < a.length → ∃ b o, pa = some ⟨b, o, none⟩ ∧ w.cell? ⟨b, o + i, none⟩ = some (.int .i64 a[i]!)) := ea
  have HH : Hid (L.length = a.length ∧ H.length = a.length ∧ allR L = true ∧ allR H = true ∧ allR a = true) := ⟨hl, hh, rl, rh, ra⟩
  rw [hl, hh] at RA0 ⊢
  obtain ⟨n, hN⟩ : ∃ n, n = a.length := ⟨_, rfl⟩
  have N : Hid (n = a.length) := hN
  rw [← hN] at hn RA0 ⊢
  clear el eh ea hl hh rl rh ra hN
  have RA : Hid (RegAt (w.alloc (.cells #[.int .i64 S, .slice pl n cl, .slice ph n ch, .int .u64 (hi R), .int .u64 (lo R), vi] 48)) w.heap.size ⟨S, L, H, R, I⟩ (.slice pl n cl) (.slice ph n ch) vi) := RA0
  clear RA0
  have S0 : At2 (((w.alloc (.cells #[.int .i64 S, .slice pl n cl, .slice ph n ch, .int .u64 (hi R), .int .u64 (lo R), vi] 48)).alloc (.cells #[.int .u64 0, .int .u64 0] 41)).alloc (.cells #[.int .u64 0, .int .u64 0] 41)) (w.heap.size + 1 + 1) 0 := by
    have := At2.new ((w.alloc (.cells #[.int .i64 S, .slice pl n cl, .slice ph n ch, .int .u64 (hi R), .int .u64 (lo R), vi] 48)).alloc (.cells #[.int .u64 0, .int .u64 0] 41)) 0 41
    rw [World.size_alloc, World.size_alloc] at this
    exact this
  obtain ⟨W0, hW0⟩ : ∃ W0, W0 = w.alloc (.cells #[.int .i64 S, .slice pl n cl, .slice ph n ch, .int .u64 (hi R), .int .u64 (lo R), vi] 48) := ⟨_, rfl⟩
  have Z0 : Hid (Gr w W0 ∧ W0.heap.size = w.heap.size + 1) := by rw [hW0]; exact ⟨(Gr.refl _).alloc _ _, by simp⟩
  have W00 : Hid (W0 = w.alloc (.cells #[.int .i64 S, .slice pl n cl, .slice ph n ch, .int .u64 (hi R), .int .u64 (lo R), vi] 48)) := hW0
  rw [← hW0] at S0 RA
  have G0 : Gr (W0.alloc (.cells #[.int .u64 0, .int .u64 0] 41)) ((W0.alloc (.cells #[.int .u64 0, .int .u64 0] 41)).alloc (.cells #[.int .u64 0, .int .u64 0] 41)) := (Gr.refl _).alloc _ _
  rw [hW0] at S0 G0
  clear hW0
  go_enter Tryz.func97, Tryz.ntmps97
  go_wp2
  go_loopw [10] (fun iv w' => ∃ q s : Nat, iv = .int .i64 (q : Int) ∧ q ≤ n ∧ Hid (s = bxN L H a q) ∧ Gr (W0.alloc (.cells #[.int .u64 0, .int .u64 0] 41)) w' ∧ At2 w' (w.heap.size + 1 + 1) s) (fun iv _ => n - (intOf iv).toNat)
  case atStart => exact ⟨0, 0, rfl, Nat.zero_le _, rfl, by rw [W00.out]; exact G0, S0⟩
  case round =>
    clear S0 G0
    obtain ⟨q, s, rfl, hq, X, hG, hS⟩ := hrel
    by_cases hqn : q < n
    · have hqi : (q : Int) < (n : Int) := by omega
      obtain ⟨e1, e2, e3, e4, e5⟩ := HH.out
      have hqa : q < a.length := by have := N.out; omega
      obtain ⟨b1, o1, ea, h1⟩ := AL.out q (by omega)
      obtain ⟨b2, o2, eb, h2⟩ := AH.out q (by omega)
      obtain ⟨b3, o3, ec, h3⟩ := AA.out q hqa
      subst ea; subst eb; subst ec
      have G1 : Gr W0 wr := ((Gr.refl _).alloc _ _).trans hG
      have x0 := (Z0.out.1.trans G1).keeps h1
      have y0 := (Z0.out.1.trans G1).keeps h2
      have z0 := (Z0.out.1.trans G1).keeps h3
      have r1 := G1.keeps RA.out.c1
      have r2 := G1.keeps RA.out.c2
      have hb1 : w.heap.size + 1 + 1 ≠ b1 := by have := cell_lt h1; dsimp only at this; omega
      have hb2 : w.heap.size + 1 + 1 ≠ b2 := by have := cell_lt h2; dsimp only at this; omega
      have hb0 : w.heap.size + 1 + 1 ≠ w.heap.size := by omega
      have hx := allR_get e3 (show q < L.length by omega)
      have hy := allR_get e4 (show q < H.length by omega)
      have hz := allR_get e5 hqa
      have hs0 : s ≤ q * 18446744056529682436 := by rw [X.out]; exact bxN_le e3 e4 e5 e1 e2 q (by omega)
      have Y : Hid (bxN L H a (q + 1) = bxN L H a q + gap L[q]! H[q]! a[q]! * gap L[q]! H[q]! a[q]!) := rfl
      generalize L[q]! = x at *
      generalize H[q]! = y at *
      generalize a[q]! = z at *
      have hg : gap x y z < 18446744073709551616 := by have := gap_le x y z hx hy hz; omega
      have hgs : s + gap x y z * gap x y z < 340282366920938463463374607431768211456 := by have := sq_small _ (gap_le x y z hx hy hz); omega
      have Z : Hid (s + gap x y z * gap x y z = bxN L H a (q + 1)) := by unfold Hid; rw [Y.out, X.out]
      have c57 := fun W => withSquare_c s (gap x y z) hg hgs W
      have c70 := fun b c W c0 c1 => side1_c x y z hx hy hz b c W c0 c1
      obtain ⟨s0, s1, s2, s3⟩ := hS
      clear h1 h2 h3 hx hy hz hs0 Y X hg hgs hqa G1 e1 e2 e3 e4 e5
      generalize s + gap x y z * gap x y z = t at *
      generalize gap x y z = g at *
      go_wp2
      have hS0 : wr.cell? ⟨b1, o1 + q, none⟩ = some (.int .i64 x) ∧ wr.cell? ⟨b2, o2 + q, none⟩ = some (.int .i64 y) ∧ wr.cell? ⟨w.heap.size, 1, none⟩ = some (.slice (some ⟨b1, o1, none⟩) n cl) ∧ wr.cell? ⟨w.heap.size, 2, none⟩ = some (.slice (some ⟨b2, o2, none⟩) n ch) := ⟨x0, y0, r1, r2⟩
      refine wp_region_held_drew (S := fun w' => w'.cell? ⟨b1, o1 + q, none⟩ = some (.int .i64 x) ∧ w'.cell? ⟨b2, o2 + q, none⟩ = some (.int .i64 y) ∧ w'.cell? ⟨w.heap.size, 1, none⟩ = some (.slice (some ⟨b1, o1, none⟩) n cl) ∧ w'.cell? ⟨w.heap.size, 2, none⟩ = some (.slice (some ⟨b2, o2, none⟩) n ch)) (by kernel_rfl) hS0 (fun hHeld => ?_)
      refine wpAnyH_take (i := 1) (v := ?_) rfl (by kernel_rfl) (by kernel_rfl) (by kernel_rfl) (fun _ _ _ h => h) (Or.inl ⟨by rfl, ?_⟩) (by assumption) ?_
      rotate_left 1
      · (intro w hSw; (try dsimp only at hSw); go_simp; try with_reducible rfl)
      try simp only [Act.put, List.setIfInBounds_toArray]
      refine wpAnyH_take (i := 2) (v := ?_) rfl (by kernel_rfl) (by kernel_rfl) (by kernel_rfl) (fun _ _ _ h => h) (Or.inl ⟨by rfl, ?_⟩) (by assumption) ?_
      rotate_left 1
      · (intro w hSw; (try dsimp only at hSw); go_simp; try with_reducible rfl)
      try simp only [Act.put]
      refine wpAnyH_take (i := 3) (v := ?_) rfl (by kernel_rfl) (by kernel_rfl) (by kernel_rfl) (fun _ _ _ h => h) (Or.inl ⟨by rfl, ?_⟩) (by assumption) ?_
      rotate_left 1
      · (intro w hSw; (try dsimp only at hSw); go_simp; try with_reducible rfl)
      try simp only [Act.put]
      refine wpAnyH_take (i := 4) (v := ?_) rfl (by kernel_rfl) (by kernel_rfl) (by kernel_rfl) (fun _ _ _ h => h) (Or.inl ⟨by rfl, ?_⟩) (by assumption) ?_
      rotate_left 1
      · (intro w hSw; (try dsimp only at hSw); go_simp; try with_reducible rfl)
      try simp only [Act.put]
      refine wpAnyH_take (i := 5) (v := ?_) rfl (by kernel_rfl) (by kernel_rfl) (by kernel_rfl) (fun _ _ _ h => h) (Or.inl ⟨by rfl, ?_⟩) (by assumption) ?_
      rotate_left 1
      · (intro w hSw; (try dsimp only at hSw); go_simp; try with_reducible rfl)
      try simp only [Act.put]
      refine wpAnyH_take (i := 6) (v := ?_) rfl (by kernel_rfl) (by kernel_rfl) (by kernel_rfl) (fun _ _ _ h => h) (Or.inl ⟨by rfl, ?_⟩) (by assumption) ?_
      rotate_left 1
      · (intro w hSw; (try dsimp only at hSw); go_simp; try with_reducible rfl)
      try simp only [Act.put]
      refine wpAnyH_take (i := 7) (v := ?_) rfl (by kernel_rfl) (by kernel_rfl) (by kernel_rfl) (fun _ _ _ h => h) (Or.inl ⟨by rfl, ?_⟩) (by assumption) ?_
      rotate_left 1
      · (intro w hSw; (try dsimp only at hSw); go_simp; try with_reducible rfl)
      try simp only [Act.put]
      refine wpAnyH_take (i := 8) (v := ?_) rfl (by kernel_rfl) (by kernel_rfl) (by kernel_rfl) (fun _ _ _ h => h) (Or.inl ⟨by rfl, ?_⟩) (by assumption) ?_
      rotate_left 1
      · (intro w hSw; (try dsimp only at hSw); go_simp; try with_reducible rfl)
      try simp only [Act.put]
      refine wpAnyH_take (i := 9) (v := ?_) rfl (by kernel_rfl) (by kernel_rfl) (by kernel_rfl) (fun _ _ _ h => h) (Or.inl ⟨by rfl, ?_⟩) (by assumption) ?_
      rotate_left 1
      · (intro w hSw; (try dsimp only at hSw); go_simp; try with_reducible rfl)
      try simp only [Act.put]
      refine wpAnyH_take (i := 10) (v := ?_) rfl (by kernel_rfl) (by kernel_rfl) (by kernel_rfl) (fun _ _ _ h => h) (Or.inl ⟨by rfl, ?_⟩) (by assumption) ?_
      rotate_left 1
      · (intro w hSw; (try dsimp only at hSw); go_simp; try with_reducible rfl)
      try simp only [Act.put]
      refine wpAnyH_take (i := 12) (v := ?_) rfl (by kernel_rfl) (by kernel_rfl) (by kernel_rfl) (fun _ _ _ h => h) (Or.inl ⟨by rfl, ?_⟩) (by assumption) ?_
      rotate_left 1
      · (intro w hSw; (try dsimp only at hSw); go_simp; try with_reducible rfl)
      try simp only [Act.put]
      refine wpAnyH_ready (rs := [0, 11]) (by kernel_rfl) (by simp) ?_
      refine AllReadyH.cons rfl (fun K hK => ?_) (AllReadyH.cons rfl (fun K hK => ?_) (AllReadyH.nil))
      · go_simp
        refine hK.out _ _ hHeld (fun hHeld => ?_)
        clear hK K
        try simp only [Act.put, List.setIfInBounds_toArray, List.set_cons_zero, List.set_cons_succ]
        refine wpAnyH_ready (rs := [11]) (by kernel_rfl) (by simp) ?_
        refine AllReadyH.cons rfl (fun K hK => ?_) (AllReadyH.nil)
        go_simp
        go_at_call 116
        refine (side_at _ _ _).mono ?_
        rintro e w1 ⟨bb, cc, rfl, k0, k1, g1⟩
        have s0 := g1.keeps s0
        have s1 := g1.keeps s1
        have s2 := (g1.froz _).trans s2
        have s3 := (g1.froz _).trans s3
        refine hK.out _ _ (four_call g1 hHeld) (fun hHeld => ?_)
        clear hK K
        try simp only [Act.put, List.setIfInBounds_toArray, List.set_cons_zero, List.set_cons_succ]
        refine wpAnyH_ready (rs := [13]) (by kernel_rfl) (by simp) ?_
        refine AllReadyH.cons rfl (fun K hK => ?_) (AllReadyH.nil)
        go_simp
        go_at_call 135
        refine (c70 _ _ _ k0 k1).mono ?_
        rintro e w2 ⟨rfl, e2⟩
        subst e2
        refine hK.out _ _ hHeld (fun hHeld => ?_)
        clear hK K
        try simp only [Act.put, List.setIfInBounds_toArray, List.set_cons_zero, List.set_cons_succ]
        refine wpAnyH_ready (rs := [14]) (by kernel_rfl) (by simp) ?_
        refine AllReadyH.cons rfl (fun K hK => ?_) (AllReadyH.nil)
        go_simp
        go_at_call 115
        refine (c57 _).mono ?_
        rintro e w3 ⟨rfl, g3⟩
        have s0 := g3.keeps s0
        have s1 := g3.keeps s1
        have s2 := (g3.froz _).trans s2
        have s3 := (g3.froz _).trans s3
        refine hK.out _ _ (four_call g3 hHeld) (fun hHeld => ?_)
        clear hK K
        try simp only [Act.put, List.setIfInBounds_toArray, List.set_cons_zero, List.set_cons_succ]
        refine wpAnyH_ready (rs := [15]) (by kernel_rfl) (by simp) ?_
        refine AllReadyH.cons rfl (fun K hK => ?_) (AllReadyH.nil)
        go_simp
        refine hK.out _ _ (four_set hb1 hb2 hb0 hHeld _ _) (fun hHeld => ?_)
        clear hK K
        try simp only [Act.put, List.setIfInBounds_toArray, List.set_cons_zero, List.set_cons_succ]
        refine wpAnyH_done (by kernel_rfl) ?_ _
        have hG3 := (hG.drew.trans g1).trans g3
        have hS3 : At2 w3 (w.heap.size + 1 + 1) s := ⟨s0, s1, s2, s3⟩
        clear c57 c70 x0 y0 z0 r1 r2 s0 s1 s2 s3 k0 k1 g1 g3 hG hHeld hS0
        go_wp2
        exact ⟨⟨q + 1, t, by go_num, hqn, Z, (hG3.setCell (by simp [Z0.out.2]) _).setCell (by simp [Z0.out.2]) _, hS3.set t⟩, by simp [intOf]; omega⟩
      · go_simp
        go_at_call 116
        refine (side_at _ _ _).mono ?_
        rintro e w1 ⟨bb, cc, rfl, k0, k1, g1⟩
        have s0 := g1.keeps s0
        have s1 := g1.keeps s1
        have s2 := (g1.froz _).trans s2
        have s3 := (g1.froz _).trans s3
        refine hK.out _ _ (four_call g1 hHeld) (fun hHeld => ?_)
        clear hK K
        try simp only [Act.put, List.setIfInBounds_toArray, List.set_cons_zero, List.set_cons_succ]
        refine wpAnyH_ready (rs := [0, 13]) (by kernel_rfl) (by simp) ?_
        refine AllReadyH.cons rfl (fun K hK => ?_) (AllReadyH.cons rfl (fun K hK => ?_) (AllReadyH.nil))
        · go_simp
          refine hK.out _ _ hHeld (fun hHeld => ?_)
          clear hK K
          try simp only [Act.put, List.setIfInBounds_toArray, List.set_cons_zero, List.set_cons_succ]
          refine wpAnyH_ready (rs := [13]) (by kernel_rfl) (by simp) ?_
          refine AllReadyH.cons rfl (fun K hK => ?_) (AllReadyH.nil)
          go_simp
          go_at_call 135
          refine (c70 _ _ _ k0 k1).mono ?_
          rintro e w2 ⟨rfl, e2⟩
          subst e2
          refine hK.out _ _ hHeld (fun hHeld => ?_)
          clear hK K
          try simp only [Act.put, List.setIfInBounds_toArray, List.set_cons_zero, List.set_cons_succ]
          refine wpAnyH_ready (rs := [14]) (by kernel_rfl) (by simp) ?_
          refine AllReadyH.cons rfl (fun K hK => ?_) (AllReadyH.nil)
          go_simp
          go_at_call 115
          refine (c57 _).mono ?_
          rintro e w3 ⟨rfl, g3⟩
          have s0 := g3.keeps s0
          have s1 := g3.keeps s1
          have s2 := (g3.froz _).trans s2
          have s3 := (g3.froz _).trans s3
          refine hK.out _ _ (four_call g3 hHeld) (fun hHeld => ?_)
          clear hK K
          try simp only [Act.put, List.setIfInBounds_toArray, List.set_cons_zero, List.set_cons_succ]
          refine wpAnyH_ready (rs := [15]) (by kernel_rfl) (by simp) ?_
          refine AllReadyH.cons rfl (fun K hK => ?_) (AllReadyH.nil)
          go_simp
          refine hK.out _ _ (four_set hb1 hb2 hb0 hHeld _ _) (fun hHeld => ?_)
          clear hK K
          try simp only [Act.put, List.setIfInBounds_toArray, List.set_cons_zero, List.set_cons_succ]
          refine wpAnyH_done (by kernel_rfl) ?_ _
          have hG3 := (hG.drew.trans g1).trans g3
          have hS3 : At2 w3 (w.heap.size + 1 + 1) s := ⟨s0, s1, s2, s3⟩
          clear c57 c70 x0 y0 z0 r1 r2 s0 s1 s2 s3 k0 k1 g1 g3 hG hHeld hS0
          go_wp2
          exact ⟨⟨q + 1, t, by go_num, hqn, Z, (hG3.setCell (by simp [Z0.out.2]) _).setCell (by simp [Z0.out.2]) _, hS3.set t⟩, by simp [intOf]; omega⟩
        · go_simp
          go_at_call 135
          refine (c70 _ _ _ k0 k1).mono ?_
          rintro e w2 ⟨rfl, e2⟩
          subst e2
          refine hK.out _ _ hHeld (fun hHeld => ?_)
          clear hK K
          try simp only [Act.put, List.setIfInBounds_toArray, List.set_cons_zero, List.set_cons_succ]
          refine wpAnyH_ready (rs := [0]) (by kernel_rfl) (by simp) ?_
          refine AllReadyH.cons rfl (fun K hK => ?_) (AllReadyH.nil)
          go_simp
          refine hK.out _ _ hHeld (fun hHeld => ?_)
          clear hK K
          try simp only [Act.put, List.setIfInBounds_toArray, List.set_cons_zero, List.set_cons_succ]
          refine wpAnyH_ready (rs := [14]) (by kernel_rfl) (by simp) ?_
          refine AllReadyH.cons rfl (fun K hK => ?_) (AllReadyH.nil)
          go_simp
          go_at_call 115
          refine (c57 _).mono ?_
          rintro e w3 ⟨rfl, g3⟩
          have s0 := g3.keeps s0
          have s1 := g3.keeps s1
          have s2 := (g3.froz _).trans s2
          have s3 := (g3.froz _).trans s3
          refine hK.out _ _ (four_call g3 hHeld) (fun hHeld => ?_)
          clear hK K
          try simp only [Act.put, List.setIfInBounds_toArray, List.set_cons_zero, List.set_cons_succ]
          refine wpAnyH_ready (rs := [15]) (by kernel_rfl) (by simp) ?_
          refine AllReadyH.cons rfl (fun K hK => ?_) (AllReadyH.nil)
          go_simp
          refine hK.out _ _ (four_set hb1 hb2 hb0 hHeld _ _) (fun hHeld => ?_)
          clear hK K
          try simp only [Act.put, List.setIfInBounds_toArray, List.set_cons_zero, List.set_cons_succ]
          refine wpAnyH_done (by kernel_rfl) ?_ _
          have hG3 := (hG.drew.trans g1).trans g3
          have hS3 : At2 w3 (w.heap.size + 1 + 1) s := ⟨s0, s1, s2, s3⟩
          clear c57 c70 x0 y0 z0 r1 r2 s0 s1 s2 s3 k0 k1 g1 g3 hG hHeld hS0
          go_wp2
          exact ⟨⟨q + 1, t, by go_num, hqn, Z, (hG3.setCell (by simp [Z0.out.2]) _).setCell (by simp [Z0.out.2]) _, hS3.set t⟩, by simp [intOf]; omega⟩
    · have hqi : ¬ (q : Int) < (n : Int) := by omega
      have E : Hid (s = bx L H a) := by
        have h1 := X.out
        rw [show q = a.length by have := N.out; omega] at h1; exact h1
      obtain ⟨s0, s1, s2, s3⟩ := hS
      obtain ⟨v0, v1, v2, v3⟩ := hG.var2
      rw [Z0.out.2] at v0 v1 v2 v3
      have hG2 := (Z0.out.1.trans ((Gr.refl _).alloc _ _)).trans hG
      go_wp2
      exact bodyPost_ret (v := Wd s) (by simp [results, Tryz.results97, go_sem, v0, v1]) rfl ⟨by rw [E.out], by repeat (first | exact hG2 | refine Gr.setCell ?_ (by simp) _)⟩
end Go.Proofs.YtdmdjmliggjbjaaGreat
