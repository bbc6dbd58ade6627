/- The reference's Decode. -/
import Derived.Test.YtblfmhdcgmkpgaaPcPRTr
import Derived.Test.YtblfmhdcgmkpgaaPc44
import Derived.BigQuiet
namespace Go.Proofs.Ytblfmhdcgmkpgaa
open Go.RowKit Go.Maps Go.Sort

theorem decTo_lenq {code : List Int} {bs : List Vs} {m s k : Nat} (h : Bks bs m s k) : ∀ q, q ≤ m → (∀ i, i < q → 0 ≤ code[i]! ∧ code[i]! < (k : Int)) → (decTo bs code q).length = q * s
  | 0, _, _ => by simp [decTo]
  | q + 1, hq, hp => by
    have h1 := decTo_lenq h q (by omega) (fun i hi => hp i (by omega))
    have h2 := hp q (by omega)
    have h3 := (h.bk q (by omega))
    have h4 := h3.2.get (i := code[q]!.toNat) (by omega)
    rw [decTo, List.length_append, h1, Nat.succ_mul]; omega
theorem app_ints {w W : World} {v : Value} {L V : List Int} {b4 o4 cw s : Nat} (h : Own W w.heap.size v L) (g : Gb w W) (hL : L.length ≤ 4096) (hs : V.length = s) (hs4 : s ≤ 64) (hn : ∀ j u, (V.map (Value.int .i64))[j]? = some u → W.cell? ((⟨b4, o4, none⟩ : Addr).add j) = some u) :
    ∃ v5 w5, (Builtin.append_ #[40, 40] 40 #[v, .slice (some ⟨b4, o4, none⟩) s cw]).run Try.prog W = .ok v5 w5 ∧ Own w5 w.heap.size v5 (L ++ V) ∧ Gb w w5 ∧ ∀ (p : Addr) (y : Value), p.block < w.heap.size → W.cell? p = some y → w5.cell? p = some y := by
  obtain ⟨j0, hj0, hy0, hy1, hy2⟩ := info_partsI
  obtain ⟨v5, w5, hr, hown, hgrow, _, _⟩ := run_append_own_at (P := Try.prog) W w.heap.size 40 40 3 j0 (.int .i64 0) 1 8 Try.underlying40 hj0 hy0 hy1 hy2 rfl (by decide) v L.length _ h ⟨b4, o4, none⟩ s cw (V.map (Value.int .i64)) (by rw [List.length_map, hs, Nat.mul_one]) hn (ints_oneCell .i64 V) (by unfold maxLen; omega) (by omega) g.size
  refine ⟨v5, w5, hr, ?_, below_grown g hgrow (fun j e => (h.lt j e).1) g.size, fun p y hp hc => ?_⟩
  · unfold Own
    rw [List.length_append, List.map_append, hs]
    exact hown
  · rw [World.cell?_of_block (hgrow.block p.block (World.block_lt_of_cell? W p hc) (fun e => by have := (h.lt p.block e.symm).1; omega))]
    exact hc
set_option maxHeartbeats 4000000 in
set_option maxRecDepth 100000 in
theorem rdecode_any {w : World} {p : Nat} {bs : List Vs} {m s k : Nat} {v : Value} {code : List Int} (hc : MCod w p (m * s) m bs) (hb : Bks bs m s k) (hv : RdI w v code) (_hlen : code.length ≤ 4611686018427387904) :
    Calls Try.prog 19 #[.pointer (some ⟨p, 0, none⟩), v] w fun e w' => ∃ u z, e = .returned (.tuple #[u, .int .i64 z]) ∧ DecO w w' bs code u z ∧ Gb w w' := by
  obtain ⟨_, y1, bv, y2, rb⟩ := hc
  have HX : Hid (Bks bs m s k ∧ RdI w v code ∧ RdB w bv bs) := ⟨hb, hv, rb⟩
  obtain ⟨ba, bc, rfl, _⟩ := rb
  obtain ⟨va, vc, rfl, _⟩ := hv
  rw [hb.len] at y2 HX
  have hm8 := hb.m8
  have hm1 := hb.m1
  have hk16 := hb.k16
  have hd64 : ∀ q, q ≤ m → q * s ≤ 64 := fun q hq => Nat.le_trans (Nat.mul_le_mul_right s hq) hb.d64
  have DQ : Hid (∀ q, q ≤ m → q * s ≤ 64) := hd64
  clear hd64
  by_cases hcl : code.length = m
  · rw [hcl] at HX
    rw [hcl]
    have CL : Hid (code.length = m) := hcl
    have DV : Hid (decV bs code = decTo bs code m) := by unfold Hid decV; rw [hcl]
    have YY : Hid (w.cell? ⟨p, 2, none⟩ = some (.slice ba m bc)) := y2
    have LS : Hid (∀ i, i < m → (lensV bs)[i]! = k) := fun i hi => by rw [lensV_get bs (by rw [HX.out.1.len]; exact hi), (HX.out.1.bk i hi).1]
    clear hcl hb _hlen
    go_enter Try.func19, Try.ntmps19
    go_wp2
    clear y1 y2
    go_loopw [6, 7] (fun cv iv W => ∃ q : Nat, iv = .int .i64 (q : Int) ∧ q ≤ m ∧ Hid ((Gb w W ∧ Own W w.heap.size cv (decTo bs code q)) ∧ ∀ i, i < q → 0 ≤ code[i]! ∧ code[i]! < (k : Int))) (fun _ iv _ => m - (intOf iv).toNat)
    case atStart => exact ⟨0, rfl, Nat.zero_le _, ⟨Below.refl _ _, own_nil _ _⟩, fun i hi => absurd hi (Nat.not_lt_zero _)⟩
    case round =>
      obtain ⟨q, rfl, hq, X⟩ := hrel
      by_cases hqn : q < m
      · have hqi : (q : Int) < (m : Int) := by omega
        obtain ⟨_, _, e1, h1⟩ := HX.out.2.1
        obtain ⟨cb, co, ea, k1⟩ := h1 q (by rw [CL.out]; exact hqn)
        injection e1 with e11 e12 e13
        subst e11 ea
        obtain ⟨b, o, ur, ea, k2, k3⟩ := rdb_at HX.out.2.2 (i := q) (by rw [HX.out.1.len]; exact hqn)
        subst ea
        have BQ := HX.out.1.bk q hqn
        have K3 : Hid (RdV w ur bs[q]!) := k3
        obtain ⟨pu, cu, eu, _⟩ := k3
        subst eu
        rw [BQ.1] at k2 K3
        have gW := X.out.1.1
        have c1 := gb_keeps gW k1
        have c2 := gb_keeps gW k2
        have y2 := gb_keeps gW YY.out
        have NX : Hid ((0 ≤ code[q]! ∧ code[q]! < (k : Int)) → ∀ i, i < q + 1 → 0 ≤ code[i]! ∧ code[i]! < (k : Int)) := fun h i hi => by
          by_cases e : i = q
          · rw [e]; exact h
          · exact X.out.2 i (by omega)
        have NO : Hid (¬ (0 ≤ code[q]! ∧ code[q]! < (k : Int)) → ¬ Plc code (lensV bs)) := fun h hp => h (by have := hp.2 q (by rw [CL.out]; exact hqn); rwa [LS.out q hqn] at this)
        have GX : Hid (Gb w wr ∧ Own wr w.heap.size u6 (decTo bs code q)) := X.out.1
        have LQ : Hid ((decTo bs code q).length ≤ 64) := by
          unfold Hid
          rw [decTo_lenq HX.out.1 q hq X.out.2]
          exact DQ.out q hq
        have DN : Hid (∀ pl : Nat, code[q]! = (pl : Int) → decTo bs code (q + 1) = decTo bs code q ++ bs[q]![pl]!) := fun pl hpl => by rw [decTo, hpl, Int.toNat_natCast]
        have L1 : Hid (cb < w.heap.size ∧ b < w.heap.size ∧ p < w.heap.size) := ⟨cell_lt k1, cell_lt k2, cell_lt YY.out⟩
        generalize code[q]! = y at *
        clear h1 e12 e13 X gW k1 k2
        by_cases hy : y < 0
        · have NP : Hid (¬ Plc code (lensV bs)) := NO.out (by omega)
          have hd : decide (y < 0) = true := by rw [decide_eq_true_eq]; exact hy
          clear NO NX
          go_wp2
          go_quiet (fail)
          have GF : Hid (Gb w (wr.drewN nq)) := gb_trans GX.out.1 (below_drewN (Below.refl _ _) _)
          clear c1 c2 y2
          go_wp2
          go_ret2
          exact ⟨_, _, rfl, .inr ⟨NP.out, rfl, rfl⟩, GF.out⟩
        by_cases hz : (k : Int) ≤ y
        · have NP : Hid (¬ Plc code (lensV bs)) := NO.out (by omega)
          have hd : decide (y < 0) = false := by rw [decide_eq_false_iff_not]; exact hy
          have hd2 : decide ((k : Int) ≤ y) = true := by rw [decide_eq_true_eq]; exact hz
          clear NO NX
          go_wp2
          go_quiet (fail)
          have GF : Hid (Gb w (wr.drewN nq)) := gb_trans GX.out.1 (below_drewN (Below.refl _ _) _)
          clear c1 c2 y2
          go_wp2
          go_ret2
          exact ⟨_, _, rfl, .inr ⟨NP.out, rfl, rfl⟩, GF.out⟩
        · have hd : decide (y < 0) = false := by rw [decide_eq_false_iff_not]; exact hy
          have hd2 : decide ((k : Int) ≤ y) = false := by rw [decide_eq_false_iff_not]; exact hz
          have FF : Hid _ := NX.out (by omega)
          obtain ⟨pl, hpl⟩ : ∃ pl : Nat, y = (pl : Int) := ⟨y.toNat, by omega⟩
          have DE := DN.out pl hpl
          have hplk : pl < bs[q]!.length := by rw [BQ.1]; omega
          obtain ⟨b3, o3, ux, ea, k4, k5⟩ := cen_at K3.out hplk
          subst ea
          have SL := BQ.2.get hplk
          have XS : Hid (RdI w ux bs[q]![pl]! ∧ bs[q]![pl]!.length = s ∧ 1 ≤ s ∧ s ≤ 64) := ⟨k5, by omega, by omega, by omega⟩
          obtain ⟨pw, cw, eux, h3⟩ := k5
          subst eux
          obtain ⟨b4, o4, ea, _⟩ := h3 0 (by omega)
          subst ea
          rw [XS.out.2.1] at k4
          have XR : Hid (RdI w (.slice (some ⟨b4, o4, none⟩) s cw) bs[q]![pl]!) := by
            have h := XS.out.1
            rw [XS.out.2.1] at h
            exact h
          obtain ⟨V, hV⟩ : ∃ V, V = bs[q]![pl]! := ⟨_, rfl⟩
          rw [← hV] at DE XS XR
          have HL : Hid (p < w.heap.size ∧ b < w.heap.size ∧ cb < w.heap.size ∧ b3 < w.heap.size) := ⟨L1.out.2.2, L1.out.2.1, L1.out.1, cell_lt k4⟩
          have K4 : Hid (w.cell? ⟨b3, o3 + pl, none⟩ = some (.slice (some ⟨b4, o4, none⟩) s cw)) := k4
          obtain ⟨ua, uc, eua, _⟩ := GX.out.2.rd
          obtain ⟨un, hun⟩ : ∃ un, un = (decTo bs code q).length := ⟨_, rfl⟩
          rw [← hun] at eua
          clear hun
          have EU : Hid (u6 = .slice ua un uc) := eua
          subst hpl
          have hplz : (pl : Int) < (k : Int) := by omega
          clear NO NX DN SL BQ h3 hV k4 hplk
          rw [eua]
          rw [eua] at GX
          clear eua EU
          go_wp2
          go_quiet (fail)
          have GX0 : Gb wr (wr.drewN nq) := below_drewN (Below.refl _ _) _
          generalize wr.drewN nq = wx at GX0 ⊢
          have FS : wx.drew.cell? ⟨p, 2, none⟩ = some (.slice (some ⟨b, o, none⟩) m bc) ∧ wx.drew.cell? ⟨b, o + q, none⟩ = some (.slice (some ⟨b3, o3, none⟩) k cu) ∧ wx.drew.cell? ⟨cb, co + q, none⟩ = some (.int .i64 (pl : Int)) ∧ wx.drew.cell? ⟨b3, o3 + pl, none⟩ = some (.slice (some ⟨b4, o4, none⟩) s cw) := ⟨gb_keeps GX0 y2, gb_keeps GX0 c2, gb_keeps GX0 c1, gb_keeps (gb_trans GX.out.1 GX0) K4.out⟩
          have gD : Gb w wx.drew := (gb_trans GX.out.1 GX0).drew
          obtain ⟨v5, w5, hrun, o5, g5, KS5⟩ := app_ints (cw := cw) (GX.out.2.gb GX0.drew) gD (Nat.le_trans LQ.out (by decide)) XS.out.2.1 XS.out.2.2.2 (ints_news (XR.out.gb gD))
          have XN : Hid ((Gb w w5 ∧ Own w5 w.heap.size v5 (decTo bs code (q + 1))) ∧ ∀ i, i < q + 1 → 0 ≤ code[i]! ∧ code[i]! < (k : Int)) := ⟨⟨g5, by rw [DE]; exact o5⟩, FF.out⟩
          obtain ⟨a5, c5, e5, _⟩ := o5.rd
          subst e5
          generalize (decTo bs code q ++ V).length = n5 at *
          clear c1 c2 y2 nq gD o5 g5 DE
          go_wp2_with fail
          refine wp_region_held_drew (S := fun W => W.cell? ⟨p, 2, none⟩ = some (.slice (some ⟨b, o, none⟩) m bc) ∧ W.cell? ⟨b, o + q, none⟩ = some (.slice (some ⟨b3, o3, none⟩) k cu) ∧ W.cell? ⟨cb, co + q, none⟩ = some (.int .i64 (pl : Int)) ∧ W.cell? ⟨b3, o3 + pl, none⟩ = some (.slice (some ⟨b4, o4, none⟩) s cw)) (by kernel_rfl) (FS) (fun hHeld => ?_)
          refine wpAnyH_take (i := 0) (v := ?_) rfl (by kernel_rfl) (by kernel_rfl) (by kernel_rfl) (fun _ _ _ h => h) (Or.inl ⟨by rfl, ?_⟩) (by assumption) ?_
          rotate_left 1
          · (intro w hSw; (obtain ⟨s0, s1, s2, s3⟩ := hSw); go_simp; try with_reducible rfl)
          try simp only [Act.put, List.getElem_toArray, List.getElem_cons_zero, List.setIfInBounds_toArray, List.set_cons_zero, List.set_cons_succ]
          refine wpAnyH_take (i := 1) (v := ?_) rfl (by kernel_rfl) (by kernel_rfl) (by kernel_rfl) (fun _ _ _ h => h) (Or.inl ⟨by rfl, ?_⟩) (by assumption) ?_
          rotate_left 1
          · (intro w hSw; (obtain ⟨s0, s1, s2, s3⟩ := hSw); go_simp; try with_reducible rfl)
          try simp only [Act.put, List.getElem_toArray, List.getElem_cons_zero, List.getElem_cons_succ, List.setIfInBounds_toArray, List.set_cons_zero, List.set_cons_succ]
          refine wpAnyH_take (i := 2) (v := ?_) rfl (by kernel_rfl) (by kernel_rfl) (by kernel_rfl) (fun _ _ _ h => h) (Or.inl ⟨by rfl, ?_⟩) (by assumption) ?_
          rotate_left 1
          · (intro w hSw; (obtain ⟨s0, s1, s2, s3⟩ := hSw); go_simp; try with_reducible rfl)
          try simp only [Act.put, List.getElem_toArray, List.getElem_cons_zero, List.getElem_cons_succ, List.setIfInBounds_toArray, List.set_cons_zero, List.set_cons_succ]
          refine wpAnyH_take (i := 3) (v := ?_) rfl (by kernel_rfl) (by kernel_rfl) (by kernel_rfl) (fun _ _ _ h => h) (Or.inl ⟨by rfl, ?_⟩) (by assumption) ?_
          rotate_left 1
          · (intro w hSw; (obtain ⟨s0, s1, s2, s3⟩ := hSw); go_simp; try with_reducible rfl)
          try simp only [Act.put, List.getElem_toArray, List.getElem_cons_zero, List.getElem_cons_succ, List.setIfInBounds_toArray, List.set_cons_zero, List.set_cons_succ]
          refine wpAnyH_take (i := 4) (v := ?_) rfl (by kernel_rfl) (by kernel_rfl) (by kernel_rfl) (fun _ _ _ h => h) (Or.inl ⟨by rfl, ?_⟩) (by assumption) ?_
          rotate_left 1
          · (intro w hSw; (obtain ⟨s0, s1, s2, s3⟩ := hSw); go_simp; try with_reducible rfl)
          try simp only [Act.put, List.getElem_toArray, List.getElem_cons_zero, List.getElem_cons_succ, List.setIfInBounds_toArray, List.set_cons_zero, List.set_cons_succ]
          refine wpAnyH_take (i := 5) (v := ?_) rfl (by kernel_rfl) (by kernel_rfl) (by kernel_rfl) (fun _ _ _ h => h) (Or.inl ⟨by rfl, ?_⟩) (by assumption) ?_
          rotate_left 1
          · (intro w hSw; (obtain ⟨s0, s1, s2, s3⟩ := hSw); go_simp; try with_reducible rfl)
          try simp only [Act.put, List.getElem_toArray, List.getElem_cons_zero, List.getElem_cons_succ, List.setIfInBounds_toArray, List.set_cons_zero, List.set_cons_succ]
          refine wpAnyH_take (i := 6) (v := ?_) rfl (by kernel_rfl) (by kernel_rfl) (by kernel_rfl) (fun _ _ _ h => h) (Or.inl ⟨by rfl, ?_⟩) (by assumption) ?_
          rotate_left 1
          · (intro w hSw; (obtain ⟨s0, s1, s2, s3⟩ := hSw); go_simp; try with_reducible rfl)
          try simp only [Act.put, List.getElem_toArray, List.getElem_cons_zero, List.getElem_cons_succ, List.setIfInBounds_toArray, List.set_cons_zero, List.set_cons_succ]
          refine wpAnyH_take (i := 7) (v := ?_) rfl (by kernel_rfl) (by kernel_rfl) (by kernel_rfl) (fun _ _ _ h => h) (Or.inl ⟨by rfl, ?_⟩) (by assumption) ?_
          rotate_left 1
          · (intro w hSw; (obtain ⟨s0, s1, s2, s3⟩ := hSw); go_simp; try with_reducible rfl)
          try simp only [Act.put, List.getElem_toArray, List.getElem_cons_zero, List.getElem_cons_succ, List.setIfInBounds_toArray, List.set_cons_zero, List.set_cons_succ]
          refine wpAnyH_take (i := 8) (v := ?_) rfl (by kernel_rfl) (by kernel_rfl) (by kernel_rfl) (fun _ _ _ h => h) (Or.inl ⟨by rfl, ?_⟩) (by assumption) ?_
          rotate_left 1
          · (intro w hSw; (obtain ⟨s0, s1, s2, s3⟩ := hSw); go_simp; try with_reducible rfl)
          try simp only [Act.put, List.getElem_toArray, List.getElem_cons_zero, List.getElem_cons_succ, List.setIfInBounds_toArray, List.set_cons_zero, List.set_cons_succ]
          refine wpAnyH_take (i := 9) (v := ?_) rfl (by kernel_rfl) (by kernel_rfl) (by kernel_rfl) (fun _ _ _ h => h) (Or.inl ⟨by rfl, ?_⟩) (by assumption) ?_
          rotate_left 1
          · (intro w hSw; (obtain ⟨s0, s1, s2, s3⟩ := hSw); go_simp; try with_reducible rfl)
          try simp only [Act.put, List.getElem_toArray, List.getElem_cons_zero, List.getElem_cons_succ, List.setIfInBounds_toArray, List.set_cons_zero, List.set_cons_succ]
          refine wpAnyH_take (i := 10) (v := ?_) rfl (by kernel_rfl) (by kernel_rfl) (by kernel_rfl) (fun _ _ _ h => h) (Or.inl ⟨by rfl, ?_⟩) (by assumption) ?_
          rotate_left 1
          · (intro w hSw; (obtain ⟨s0, s1, s2, s3⟩ := hSw); go_simp; try with_reducible rfl)
          try simp only [Act.put, List.getElem_toArray, List.getElem_cons_zero, List.getElem_cons_succ, List.setIfInBounds_toArray, List.set_cons_zero, List.set_cons_succ]
          refine wpAnyH_take (i := 11) (v := ?_) rfl (by kernel_rfl) (by kernel_rfl) (by kernel_rfl) (fun _ _ _ h => h) (Or.inl ⟨by rfl, ?_⟩) (by assumption) ?_
          rotate_left 1
          · (intro w hSw; (obtain ⟨s0, s1, s2, s3⟩ := hSw); go_simp; try with_reducible rfl)
          try simp only [Act.put, List.getElem_toArray, List.getElem_cons_zero, List.getElem_cons_succ, List.setIfInBounds_toArray, List.set_cons_zero, List.set_cons_succ]
          refine wpAnyH_take (i := 12) (v := ?_) rfl (by kernel_rfl) (by kernel_rfl) (by kernel_rfl) (fun _ _ _ h => h) (Or.inl ⟨by rfl, ?_⟩) (by assumption) ?_
          rotate_left 1
          · (intro w hSw; (obtain ⟨s0, s1, s2, s3⟩ := hSw); go_simp; try with_reducible rfl)
          try simp only [Act.put, List.getElem_toArray, List.getElem_cons_zero, List.getElem_cons_succ, List.setIfInBounds_toArray, List.set_cons_zero, List.set_cons_succ]
          refine wpAnyH_take (i := 13) (v := ?_) rfl (by kernel_rfl) (by kernel_rfl) (by kernel_rfl) (fun _ _ _ h => h) (Or.inl ⟨by rfl, ?_⟩) (by assumption) ?_
          rotate_left 1
          · (intro w hSw; (obtain ⟨s0, s1, s2, s3⟩ := hSw); go_simp; try with_reducible rfl)
          try simp only [Act.put, List.getElem_toArray, List.getElem_cons_zero, List.getElem_cons_succ, List.setIfInBounds_toArray, List.set_cons_zero, List.set_cons_succ]
          refine wpAnyH_ready (rs := [14]) (by kernel_rfl) (by simp) ?_
          refine AllReadyH.cons rfl (fun K hK => ?_) AllReadyH.nil
          refine app_run (by rfl) _ _ _ (by rfl) ⟨.slice ua un uc, .slice (some ⟨b4, o4, none⟩) s cw, _, _, (by go_simp), (by go_simp), hrun, ?_⟩
          refine hK.out _ _ (⟨KS5 _ _ HL.out.1 hHeld.1, KS5 _ _ HL.out.2.1 hHeld.2.1, KS5 _ _ HL.out.2.2.1 hHeld.2.2.1, KS5 _ _ HL.out.2.2.2 hHeld.2.2.2⟩) (fun hHeld => ?_)
          clear hK K
          try simp only [Act.put, List.getElem_toArray, List.getElem_cons_zero, List.getElem_cons_succ, List.setIfInBounds_toArray, List.set_cons_zero, List.set_cons_succ]
          refine wpAnyH_take (i := 15) (v := ?_) rfl (by kernel_rfl) (by kernel_rfl) (by kernel_rfl) (fun _ _ _ h => h) (Or.inl ⟨by rfl, ?_⟩) (by assumption) ?_
          rotate_left 1
          · (intro w hSw; (obtain ⟨s0, s1, s2, s3⟩ := hSw); go_simp; try with_reducible rfl)
          try simp only [Act.put, List.getElem_toArray, List.getElem_cons_zero, List.getElem_cons_succ, List.setIfInBounds_toArray, List.set_cons_zero, List.set_cons_succ]
          refine wpAnyH_done (by kernel_rfl) ?_ _
          clear hrun hHeld KS5 FS
          go_wp2
          go_roundw
          case rel => exact ⟨q + 1, by first | rfl | go_num | simp, hqn, XN⟩
          case measure => simp [intOf]; omega
      · have hqi : ¬ (q : Int) < (m : Int) := by omega
        have E : Hid ((Plc code (lensV bs) ∧ Own wr w.heap.size u6 (decV bs code)) ∧ Gb w wr) := by
          have h := X.out
          rw [show q = m by omega] at h
          rw [DV.out]
          exact ⟨⟨⟨by rw [lensV_len, HX.out.1.len]; exact CL.out, fun i hi => by rw [LS.out i (by rw [← CL.out]; exact hi)]; exact h.2 i (by rw [← CL.out]; exact hi)⟩, h.1.2⟩, h.1.1⟩
        clear X
        go_wp2
        go_ret2
        exact ⟨_, _, rfl, .inl ⟨E.out.1.1, rfl, E.out.1.2⟩, E.out.2⟩
  · have NP : Hid (¬ Plc code (lensV bs)) := fun h => hcl (by rw [h.1, lensV_len, HX.out.1.len])
    have hz : ¬ (code.length : Int) = (m : Int) := by omega
    have hz1 : ((code.length : Int) == (m : Int)) = false := by rw [beq_eq_false_iff_ne]; exact hz
    have hz2 : ((code.length : Int) != (m : Int)) = true := by rw [bne_iff_ne]; exact hz
    generalize code.length = n at *
    clear HX hcl hb
    go_enter Try.func19, Try.ntmps19
    go_wp2
    go_ret2
    exact ⟨_, _, rfl, .inr ⟨NP.out, rfl, rfl⟩, Below.refl _ _⟩
end Go.Proofs.Ytblfmhdcgmkpgaa
