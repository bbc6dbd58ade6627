/- theodolitekeep.Hits and Answer, of longer lists. -/
import Derived.Test.YtdmdjmliggjbjaaGreatCt29
namespace Go.Proofs.YtdmdjmliggjbjaaGreat.Tk
open Go.RowKit Go.Sort
attribute [local go_sem ↓] Go.wp_at_zero Go.wp_at_succ

set_option maxHeartbeats 2000000 in
set_option maxRecDepth 100000 in
theorem sameL_c {w : World} {u v : Value} {l m : List Ht} (hu : Rd w u l) (hv' : Rd w v m) (hlen : l.length ≤ 100000) :
    Calls Tryz.prog 16 #[u, v] w fun e w' => e = .returned (.bool (decide (l = m))) ∧ Gr w w' := by
  obtain ⟨a, ca, rfl, ha⟩ := hu.form
  obtain ⟨b, cb, rfl, hb⟩ := hv'.form
  clear hu hv'
  by_cases hlm : l.length = m.length
  · have A : Hid (∀ i, i < l.length → ∃ b o, a = some ⟨b, o, none⟩ ∧ Lies w b o l) := ha
    have B : Hid (∀ i, i < m.length → ∃ b' o, b = some ⟨b', o, none⟩ ∧ Lies w b' o m) := hb
    have L : Hid (l.length = m.length) := hlm
    rw [← hlm]
    obtain ⟨n, hN⟩ : ∃ n, n = l.length := ⟨_, rfl⟩
    have N : Hid (n = l.length) := hN
    rw [← hN] at hlen ⊢
    clear ha hb hlm hN
    go_enter Tryz.func16, Tryz.ntmps16
    go_wp2
    go_loopw [5] (fun iv w' => ∃ q : Nat, iv = .int .i64 (q : Int) ∧ q ≤ n ∧ Hid (l.take q = m.take q ∧ Gr w w')) (fun iv _ => n - (intOf iv).toNat)
    case atStart => exact ⟨0, rfl, Nat.zero_le _, ⟨by simp, Below.refl _ _⟩⟩
    case round =>
      obtain ⟨q, rfl, hq, X⟩ := hrel
      by_cases hqn : q < n
      · obtain ⟨b1, o1, ea, h1⟩ := A.out q (by have := N.out; omega)
        obtain ⟨b2, o2, eb, h2⟩ := B.out q (by have := L.out; have := N.out; omega)
        obtain ⟨x0, x1, x2⟩ := (h1.gr X.out.2) q (by have := N.out; omega)
        obtain ⟨y0, y1, y2⟩ := (h2.gr X.out.2) q (by have := L.out; have := N.out; omega)
        subst ea; subst eb
        have Q : Hid (q < l.length ∧ q < m.length) := ⟨by have := N.out; omega, by have := L.out; have := N.out; omega⟩
        obtain ⟨x, hx⟩ : ∃ x, x = l[q]! := ⟨_, rfl⟩
        obtain ⟨y, hy⟩ : ∃ y, y = m[q]! := ⟨_, rfl⟩
        have XY : Hid (x = l[q]! ∧ y = m[q]!) := ⟨hx, hy⟩
        rw [← hx] at x0 x1 x2
        rw [← hy] at y0 y1 y2
        clear hx hy h1 h2
        have hne := fun W => hv_ne x y W
        by_cases hxy : x = y
        · have E : Hid (x = y) := hxy
          rw [decide_eq_true hxy] at hne
          clear hxy
          go_wp2
          go_quiet (fail)
          go_wp2
          go_roundw
          case rel =>
            refine ⟨q + 1, by simp, hqn, ⟨?_, X.out.2.trans (below_drewN (Below.refl _ _) _)⟩⟩
            obtain ⟨e1, e2⟩ := XY.out
            have e3 := E.out
            rw [e1, e2, getElem!_pos l q Q.out.1, getElem!_pos m q Q.out.2] at e3
            rw [List.take_succ_eq_append_getElem Q.out.1, List.take_succ_eq_append_getElem Q.out.2, X.out.1, e3]
          case measure => simp [intOf]; omega
        · have E : Hid (l ≠ m) := by
            intro e
            obtain ⟨e1, e2⟩ := XY.out
            exact hxy (by rw [e1, e2, e])
          rw [decide_eq_false hxy] at hne
          have R : Hid (decide (l = m) = false) := decide_eq_false E.out
          clear hxy
          go_wp2
          go_quiet (fail)
          go_wp2
          go_ret
          exact ⟨by rw [R.out]; rfl, X.out.2.trans (below_drewN (Below.refl _ _) _)⟩
      · have R : Hid (decide (l = m) = true) := by
          have e := X.out.1
          have h1 := N.out
          have h2 := L.out
          rw [List.take_of_length_le (by omega), List.take_of_length_le (by omega)] at e
          exact decide_eq_true e
        go_wp2
        go_ret
        exact ⟨by rw [R.out]; rfl, X.out.2⟩
  · have R : Hid (decide (l = m) = false) := decide_eq_false (fun e => hlm (by rw [e]))
    have hne : ((l.length : Int) == (m.length : Int)) = false := by rw [beq_eq_false_iff_ne]; omega
    generalize l.length = n1 at *
    generalize m.length = n2 at *
    clear ha hb hlm
    go_enter Tryz.func16, Tryz.ntmps16
    go_wp2
    go_ret
    exact ⟨by rw [R.out]; rfl, Below.refl _ _⟩
end Go.Proofs.YtdmdjmliggjbjaaGreat.Tk
namespace Go.Proofs.YtdmdjmliggjbjaaGreat
open Go.RowKit Go.Sort

/-- What bounds an answer's lists. -/
structure FewL (a : Ans) : Prop where
  hits : a.hits.length ≤ 100000
  seen : a.seen.length ≤ 4611686018427387904
  rest : a.rest.length ≤ 4611686018427387904
  reg : ∀ r ∈ a.rest, r.L.length ≤ 4611686018427387904 ∧ r.H.length ≤ 4611686018427387904 ∧ r.I.length ≤ 4611686018427387904

set_option maxRecDepth 100000 in
set_option maxHeartbeats 2000000 in
theorem kanswerL_c {w : World} {vh vs vr uh us ur : Value} {a : Ans} (ha : RdA w vh vs vr a) (hb : RdA w uh us ur a) (few : FewL a) :
    Calls Tryz.prog 14 #[.agg #[vh, vs, vr], .agg #[uh, us, ur]] w fun e w' => e = .returned (.bool true) ∧ Gb w w' := by
  have A : Hid (RdA w vh vs vr a) := ha
  have B : Hid (RdA w uh us ur a) := hb
  have FW : Hid (FewL a) := few
  obtain ⟨W1, hW1⟩ : ∃ W1, W1 = (w.alloc (.cells #[vh, vs, vr] 27)).alloc (.cells #[uh, us, ur] 27) := ⟨_, rfl⟩
  have G0 : Hid (Gb w W1) := by unfold Hid; rw [hW1]; exact gb_alloc (gb_alloc (Below.refl _ _) _) _
  have BX : Hid ((W1.cell? ⟨w.heap.size, 0, none⟩ = some vh ∧ W1.cell? ⟨w.heap.size, 1, none⟩ = some vs ∧ W1.cell? ⟨w.heap.size, 2, none⟩ = some vr) ∧ W1.cell? ⟨w.heap.size + 1, 0, none⟩ = some uh ∧ W1.cell? ⟨w.heap.size + 1, 1, none⟩ = some us ∧ W1.cell? ⟨w.heap.size + 1, 2, none⟩ = some ur) := by
    unfold Hid; rw [hW1]; exact ⟨⟨by simp [go_sem], by simp [go_sem], by simp [go_sem]⟩, by simp [go_sem], by simp [go_sem], by simp [go_sem]⟩
  have ch := Tk.sameL_c (ha.hits.gr G0.out) (hb.hits.gr G0.out) few.hits
  have ci := fun W (g : Gb w W) => ints_v (ha.seen.gb g) (hb.seen.gb g) few.seen true (by simp)
  simp only [decide_true] at ch
  obtain ⟨ah, c1, evh, _⟩ := ha.hits.form
  obtain ⟨sa, c2, evs, _⟩ := ha.seen
  obtain ⟨ar, cr, evr, _⟩ := ha.rest
  obtain ⟨bh, d1, euh, _⟩ := hb.hits.form
  obtain ⟨bs, d2, eus, _⟩ := hb.seen
  obtain ⟨br, er, eur, _⟩ := hb.rest
  subst evh; subst evs; subst evr; subst euh; subst eus; subst eur
  clear ha hb few
  obtain ⟨nh, hnh⟩ : ∃ nh, nh = a.hits.length := ⟨_, rfl⟩
  obtain ⟨ns, hns⟩ : ∃ ns, ns = a.seen.length := ⟨_, rfl⟩
  obtain ⟨nr, hnr⟩ : ∃ nr, nr = a.rest.length := ⟨_, rfl⟩
  have NR : Hid (nr = a.rest.length) := hnr
  rw [← hnh, ← hns, ← hnr] at A B BX hW1 ⊢
  rw [← hnh] at ch
  simp only [← hns] at ci
  have hrl : nr ≤ 4611686018427387904 := by rw [hnr]; exact FW.out.rest
  clear hnh hns hnr
  go_enter Tryz.func14, Tryz.ntmps14
  go_wp2_with fail
  rw [← hW1]
  clear hW1
  obtain ⟨⟨x0, x1, x2⟩, y0, y1, y2⟩ := BX.out
  go_wp2_with fail
  refine ch.mono ?_
  rintro e w2 ⟨rfl, g2⟩
  have G2 : Hid (Gb W1 w2) := g2
  clear ch g2 x0 x1 x2 y0 y1 y2
  obtain ⟨⟨x0, x1, x2⟩, y0, y1, y2⟩ := BX.out
  have x1 := gb_keeps G2.out x1
  have y1 := gb_keeps G2.out y1
  clear x0 x2 y0 y2
  go_wp2_with fail
  refine (ci _ (gb_trans G0.out G2.out)).mono ?_
  rintro e w3 ⟨rfl, g3⟩
  have G3 : Hid (Gb W1 w3) := gb_trans G2.out g3.gb
  clear ci g3 x1 y1 G2
  obtain ⟨⟨x0, x1, x2⟩, y0, y1, y2⟩ := BX.out
  have x2 := gb_keeps G3.out x2
  have y2 := gb_keeps G3.out y2
  clear x0 x1 y0 y1
  go_wp2
  clear x2 y2
  go_loopw [5] (fun iv W => ∃ p : Nat, iv = .int .i64 (p : Int) ∧ p ≤ nr ∧ Hid (Gb W1 W)) (fun iv _ => nr - (intOf iv).toNat)
  case atStart => exact ⟨0, rfl, Nat.zero_le _, G3⟩
  case round =>
    obtain ⟨p, rfl, hp, X⟩ := hrel
    obtain ⟨⟨x0, x1, x2⟩, y0, y1, y2⟩ := BX.out
    have x2 := gb_keeps X.out x2
    have y2 := gb_keeps X.out y2
    clear x0 x1 y0 y1
    by_cases hpn : p < nr
    · have hpi : (p : Int) < (nr : Int) := by omega
      have hpl : p < a.rest.length := by have := NR.out; omega
      obtain ⟨_, _, ea, hA⟩ := A.out.rest
      obtain ⟨b1, o1, x1, x2', x3, e1, a0, a1, a2, a3, a4, a5, r1, r2, r3⟩ := hA p hpl
      obtain ⟨_, _, eb, hB⟩ := B.out.rest
      obtain ⟨b2, o2, y1, y2', y3, e2, k0, k1, k2, k3, k4, k5, t1, t2, t3⟩ := hB p hpl
      injection ea with ea1 ea2 ea3
      injection eb with eb1 eb2 eb3
      subst ea1; subst eb1; subst e1; subst e2
      clear hA hB ea2 ea3 eb2 eb3
      have fw := FW.out.reg _ (List.getElem_mem hpl)
      have GX : Hid (Gb w wr.drew) := (gb_trans G0.out X.out).drew
      have cr' := fun W (g : Gb w W) => kregion_c (r := a.rest[p]) ⟨x1, x2', x3, rfl, r1.gb g, r2.gb g, r3.gb g⟩ ⟨y1, y2', y3, rfl, t1.gb g, t2.gb g, t3.gb g⟩ fw.1 fw.2.1 fw.2.2
      have FS0 : Tw wr.drew w.heap.size (.slice (some ⟨b1, o1, none⟩) nr cr) (.slice (some ⟨b2, o2, none⟩) nr er) ⟨b1, o1 + p * 6, none⟩ ⟨b2, o2 + p * 6, none⟩ (.int .i64 a.rest[p].S) x1 x2' x3 y1 y2' y3 (.int .u64 (hi a.rest[p].R)) (.int .u64 (lo a.rest[p].R)) :=
        ⟨x2, y2, gb_keeps GX.out a0, gb_keeps GX.out a1, gb_keeps GX.out a2, gb_keeps GX.out a3, gb_keeps GX.out a4, gb_keeps GX.out a5, gb_keeps GX.out k0, gb_keeps GX.out k1, gb_keeps GX.out k2, gb_keeps GX.out k3, gb_keeps GX.out k4, gb_keeps GX.out k5⟩
      obtain ⟨u1, u2, e, z0⟩ := r1; subst e
      obtain ⟨u3, u4, e, z1⟩ := r2; subst e
      obtain ⟨u5, u6, e, z2⟩ := r3; subst e
      obtain ⟨u7, u8, e, z3⟩ := t1; subst e
      obtain ⟨u9, u10, e, z4⟩ := t2; subst e
      obtain ⟨u11, u12, e, z5⟩ := t3; subst e
      dsimp only [rv] at cr'
      generalize Value.slice u1 _ u2 = x1 at *
      generalize Value.slice u3 _ u4 = x2' at *
      generalize Value.slice u5 _ u6 = x3 at *
      generalize Value.slice u7 _ u8 = y1 at *
      generalize Value.slice u9 _ u10 = y2' at *
      generalize Value.slice u11 _ u12 = y3 at *
      generalize Value.int .i64 a.rest[p].S = S at *
      generalize Value.int .u64 (hi a.rest[p].R) = R1 at *
      generalize Value.int .u64 (lo a.rest[p].R) = R2 at *
      clear z0 z1 z2 z3 z4 z5 a0 a1 a2 a3 a4 a5 k0 k1 k2 k3 k4 k5 fw hpl
      go_wp2_with fail
      refine wp_region_held_drew (S := fun W => Tw W w.heap.size (.slice (some ⟨b1, o1, none⟩) nr cr) (.slice (some ⟨b2, o2, none⟩) nr er) ⟨b1, o1 + p * 6, none⟩ ⟨b2, o2 + p * 6, none⟩ S x1 x2' x3 y1 y2' y3 R1 R2) (by kernel_rfl) (FS0) (fun hHeld => ?_)
      refine wpAnyH_take (i := 0) (v := ?_) rfl (by kernel_rfl) (by kernel_rfl) (by kernel_rfl) (fun _ _ _ h => h) (Or.inl ⟨by rfl, ?_⟩) (by assumption) ?_
      rotate_left 1
      · (intro w hSw; (obtain ⟨s0, s1, s2, s3, s4, s5, s6, s7, s8, s9, s10, s11, s12, s13⟩ := hSw); go_simp; try with_reducible rfl)
      try simp only [Act.put, List.getElem_toArray, List.getElem_cons_zero, List.setIfInBounds_toArray, List.set_cons_zero, List.set_cons_succ]
      refine wpAnyH_take (i := 1) (v := ?_) rfl (by kernel_rfl) (by kernel_rfl) (by kernel_rfl) (fun _ _ _ h => h) (Or.inl ⟨by rfl, ?_⟩) (by assumption) ?_
      rotate_left 1
      · (intro w hSw; (obtain ⟨s0, s1, s2, s3, s4, s5, s6, s7, s8, s9, s10, s11, s12, s13⟩ := hSw); go_simp; try with_reducible rfl)
      try simp only [Act.put, List.getElem_toArray, List.getElem_cons_zero, List.getElem_cons_succ, List.setIfInBounds_toArray, List.set_cons_zero, List.set_cons_succ]
      refine wpAnyH_take (i := 2) (v := ?_) rfl (by kernel_rfl) (by kernel_rfl) (by kernel_rfl) (fun _ _ _ h => h) (Or.inl ⟨by rfl, ?_⟩) (by assumption) ?_
      rotate_left 1
      · (intro w hSw; (obtain ⟨s0, s1, s2, s3, s4, s5, s6, s7, s8, s9, s10, s11, s12, s13⟩ := hSw); go_simp; try with_reducible rfl)
      try simp only [Act.put, List.getElem_toArray, List.getElem_cons_zero, List.getElem_cons_succ, List.setIfInBounds_toArray, List.set_cons_zero, List.set_cons_succ]
      refine wpAnyH_take (i := 3) (v := ?_) rfl (by kernel_rfl) (by kernel_rfl) (by kernel_rfl) (fun _ _ _ h => h) (Or.inl ⟨by rfl, ?_⟩) (by assumption) ?_
      rotate_left 1
      · (intro w hSw; (obtain ⟨s0, s1, s2, s3, s4, s5, s6, s7, s8, s9, s10, s11, s12, s13⟩ := hSw); go_simp; try with_reducible rfl)
      try simp only [Act.put, List.getElem_toArray, List.getElem_cons_zero, List.getElem_cons_succ, List.setIfInBounds_toArray, List.set_cons_zero, List.set_cons_succ]
      refine wpAnyH_take (i := 4) (v := ?_) rfl (by kernel_rfl) (by kernel_rfl) (by kernel_rfl) (fun _ _ _ h => h) (Or.inl ⟨by rfl, ?_⟩) (by assumption) ?_
      rotate_left 1
      · (intro w hSw; (obtain ⟨s0, s1, s2, s3, s4, s5, s6, s7, s8, s9, s10, s11, s12, s13⟩ := hSw); go_simp; try with_reducible rfl)
      try simp only [Act.put, List.getElem_toArray, List.getElem_cons_zero, List.getElem_cons_succ, List.setIfInBounds_toArray, List.set_cons_zero, List.set_cons_succ]
      refine wpAnyH_take (i := 5) (v := ?_) rfl (by kernel_rfl) (by kernel_rfl) (by kernel_rfl) (fun _ _ _ h => h) (Or.inl ⟨by rfl, ?_⟩) (by assumption) ?_
      rotate_left 1
      · (intro w hSw; (obtain ⟨s0, s1, s2, s3, s4, s5, s6, s7, s8, s9, s10, s11, s12, s13⟩ := hSw); go_simp; try with_reducible rfl)
      try simp only [Act.put, List.getElem_toArray, List.getElem_cons_zero, List.getElem_cons_succ, List.setIfInBounds_toArray, List.set_cons_zero, List.set_cons_succ]
      refine wpAnyH_take (i := 6) (v := ?_) rfl (by kernel_rfl) (by kernel_rfl) (by kernel_rfl) (fun _ _ _ h => h) (Or.inl ⟨by rfl, ?_⟩) (by assumption) ?_
      rotate_left 1
      · (intro w hSw; (obtain ⟨s0, s1, s2, s3, s4, s5, s6, s7, s8, s9, s10, s11, s12, s13⟩ := hSw); go_simp; try with_reducible rfl)
      try simp only [Act.put, List.getElem_toArray, List.getElem_cons_zero, List.getElem_cons_succ, List.setIfInBounds_toArray, List.set_cons_zero, List.set_cons_succ]
      refine wpAnyH_take (i := 7) (v := ?_) rfl (by kernel_rfl) (by kernel_rfl) (by kernel_rfl) (fun _ _ _ h => h) (Or.inl ⟨by rfl, ?_⟩) (by assumption) ?_
      rotate_left 1
      · (intro w hSw; (obtain ⟨s0, s1, s2, s3, s4, s5, s6, s7, s8, s9, s10, s11, s12, s13⟩ := hSw); go_simp; try with_reducible rfl)
      try simp only [Act.put, List.getElem_toArray, List.getElem_cons_zero, List.getElem_cons_succ, List.setIfInBounds_toArray, List.set_cons_zero, List.set_cons_succ]
      refine wpAnyH_take (i := 8) (v := ?_) rfl (by kernel_rfl) (by kernel_rfl) (by kernel_rfl) (fun _ _ _ h => h) (Or.inl ⟨by rfl, ?_⟩) (by assumption) ?_
      rotate_left 1
      · (intro w hSw; (obtain ⟨s0, s1, s2, s3, s4, s5, s6, s7, s8, s9, s10, s11, s12, s13⟩ := hSw); go_simp; try with_reducible rfl)
      try simp only [Act.put, List.getElem_toArray, List.getElem_cons_zero, List.getElem_cons_succ, List.setIfInBounds_toArray, List.set_cons_zero, List.set_cons_succ]
      refine wpAnyH_take (i := 9) (v := ?_) rfl (by kernel_rfl) (by kernel_rfl) (by kernel_rfl) (fun _ _ _ h => h) (Or.inl ⟨by rfl, ?_⟩) (by assumption) ?_
      rotate_left 1
      · (intro w hSw; (obtain ⟨s0, s1, s2, s3, s4, s5, s6, s7, s8, s9, s10, s11, s12, s13⟩ := hSw); go_simp; try with_reducible rfl)
      try simp only [Act.put, List.getElem_toArray, List.getElem_cons_zero, List.getElem_cons_succ, List.setIfInBounds_toArray, List.set_cons_zero, List.set_cons_succ]
      refine wpAnyH_ready (rs := [10]) (by kernel_rfl) (by simp) ?_
      refine AllReadyH.cons rfl (fun K hK => ?_) AllReadyH.nil
      go_simp
      refine (cr' _ GX.out).mono ?_
      rintro e w4 ⟨rfl, g4⟩
      refine hK.out _ _ (hHeld.gb g4.gb) (fun hHeld => ?_)
      clear hK K
      try simp only [Act.put, List.getElem_toArray, List.getElem_cons_zero, List.getElem_cons_succ, List.setIfInBounds_toArray, List.set_cons_zero, List.set_cons_succ]
      refine wpAnyH_take (i := 11) (v := ?_) rfl (by kernel_rfl) (by kernel_rfl) (by kernel_rfl) (fun _ _ _ h => h) (Or.inl ⟨by rfl, ?_⟩) (by assumption) ?_
      rotate_left 1
      · (intro w hSw; (obtain ⟨s0, s1, s2, s3, s4, s5, s6, s7, s8, s9, s10, s11, s12, s13⟩ := hSw); go_simp; try with_reducible rfl)
      try simp only [Act.put, List.getElem_toArray, List.getElem_cons_zero, List.getElem_cons_succ, List.setIfInBounds_toArray, List.set_cons_zero, List.set_cons_succ]
      refine wpAnyH_done (by kernel_rfl) ?_ _
      go_wp2
      go_roundw
      case rel => exact ⟨p + 1, by first | rfl | go_num | simp, hpn, gb_trans X.out.drew g4.gb⟩
      case measure => simp [intOf]; omega
    · have hpi : ¬ (p : Int) < (nr : Int) := by omega
      have G : Hid (Gb w wr) := gb_trans G0.out X.out
      go_wp2
      go_ret
      exact ⟨rfl, G.out⟩
end Go.Proofs.YtdmdjmliggjbjaaGreat
