/- VecHolds: the walk where both answer a region, its two loops. -/
import Derived.Test.YtnhaloeeaejedaaHoldsY
namespace Go.Proofs.Ytnhaloeeaejedaa
open Go.RowKit Go.Sort Go.Maps

theorem new6 (W : World) (v0 v1 v2 v3 v4 v5 : Value) : (W.alloc (.cells #[v0, v1, v2, v3, v4, v5] 36)).cell? ⟨W.heap.size, 0, none⟩ = some v0 ∧ (W.alloc (.cells #[v0, v1, v2, v3, v4, v5] 36)).cell? ⟨W.heap.size, 1, none⟩ = some v1 ∧ (W.alloc (.cells #[v0, v1, v2, v3, v4, v5] 36)).cell? ⟨W.heap.size, 2, none⟩ = some v2 ∧
    (W.alloc (.cells #[v0, v1, v2, v3, v4, v5] 36)).cell? ⟨W.heap.size, 3, none⟩ = some v3 ∧ (W.alloc (.cells #[v0, v1, v2, v3, v4, v5] 36)).cell? ⟨W.heap.size, 4, none⟩ = some v4 ∧ (W.alloc (.cells #[v0, v1, v2, v3, v4, v5] 36)).cell? ⟨W.heap.size, 5, none⟩ = some v5 :=
  ⟨by simp [go_sem], by simp [go_sem], by simp [go_sem], by simp [go_sem], by simp [go_sem], by simp [go_sem]⟩
theorem six_keep {W w' : World} {p0 p1 p2 p3 p4 p5 : Addr} {v0 v1 v2 v3 v4 v5 : Value} (g : Gb W w')
    (h : W.cell? p0 = some v0 ∧ W.cell? p1 = some v1 ∧ W.cell? p2 = some v2 ∧ W.cell? p3 = some v3 ∧ W.cell? p4 = some v4 ∧ W.cell? p5 = some v5) :
    w'.cell? p0 = some v0 ∧ w'.cell? p1 = some v1 ∧ w'.cell? p2 = some v2 ∧ w'.cell? p3 = some v3 ∧ w'.cell? p4 = some v4 ∧ w'.cell? p5 = some v5 :=
  ⟨gb_keeps g h.1, gb_keeps g h.2.1, gb_keeps g h.2.2.1, gb_keeps g h.2.2.2.1, gb_keeps g h.2.2.2.2.1, gb_keeps g h.2.2.2.2.2⟩

set_option maxHeartbeats 8000000 in
set_option maxRecDepth 100000 in
theorem holds_yes {w : World} {u v : Value} {c : List Int} {rs : List Rw} (p : Int) (hu : RdI w u c) (h : RdW w v rs) (hlen : rs.length ≤ 4611686018427387904) (hwf : ∀ i, i < rs.length → (Lit.int .i64 rs[i]!.1).wf = true) (hn : rs.length ≤ 2000) (hm : c.length ≤ 65536) (ha : boxE rs c.length = 0) (hb : ballE c rs = 0) :
    Calls Try.prog 8 #[v, u, .int .i64 p] w fun e w' => e = .returned (.bool true) ∧ Gb w w' := by
  have C23 := vects_c h 65536 (by omega)
  have C25 := box_y h hlen hwf ha
  have C26 := fun W' (g : Gb w W') => ball_y (hu.gb g) (h.gb g) hlen hwf hb
  have IL : Hid ((srt (idsOf rs)).length ≤ 4611686018427387904) := by unfold Hid; rw [srt_len]; simp [idsOf]; omega
  have HA : Hid (boxE rs c.length = 0) := ha
  have HB : Hid (ballE c rs = 0) := hb
  obtain ⟨m1, _⟩ := rows_of ha
  have M1 : Hid (1 ≤ c.length) := m1
  obtain ⟨a, cap, rfl, hr⟩ := h
  have A : Hid (∀ i, i < rs.length → ∃ b o u, a = some ⟨b, o, none⟩ ∧ w.cell? ⟨b, o + i * 2, none⟩ = some (.int .i64 rs[i]!.1) ∧ w.cell? ⟨b, o + i * 2 + 1, none⟩ = some u ∧ RdI w u rs[i]!.2) := hr
  obtain ⟨pc, cc, rfl, _⟩ := hu
  generalize hR : radN c rs rs.length = R at *
  have RR : Hid (radN c rs rs.length = R) := hR
  have kn : ¬ (rs.length : Int) > 2000 := by omega
  have km : ¬ (c.length : Int) > 65536 := by omega
  obtain ⟨n, hN⟩ : ∃ n, n = rs.length := ⟨_, rfl⟩
  have N : Hid (n = rs.length) := hN
  obtain ⟨m, hM⟩ : ∃ m, m = c.length := ⟨_, rfl⟩
  have M : Hid (m = c.length) := hM
  obtain ⟨ni, hI⟩ : ∃ ni, ni = (srt (idsOf rs)).length := ⟨_, rfl⟩
  have I : Hid (ni = (srt (idsOf rs)).length) := hI
  simp only [← hN] at C23 C25 C26 kn ⊢
  simp only [← hM] at C25 C26 km HA M1 ⊢
  clear hr hN hM hI ha hb hn hm hlen hwf m1 hR
  go_enter Try.func8, Try.ntmps8
  go_wp2_with fail
  refine C23.mono ?_
  rintro e w1 ⟨⟨z, rfl⟩, e2⟩
  subst e2
  clear C23
  by_cases hz : z > 65536
  · go_wp2
    go_ret
    exact ⟨rfl, Below.refl _ _⟩
  go_wp2_with fail
  refine C25.mono ?_
  rintro e w1 ⟨vl, vh, vi, rfl, g1, o1, o2, o3, o4⟩
  dsimp only at o1 o2 o3
  obtain ⟨gl, cl, e1, b1, b2⟩ := own_form o1 (by unfold boxL; rw [tab_len]; exact M1.out)
  obtain ⟨gh, ch, e2, b3, b4⟩ := own_form o2 (by unfold boxH; rw [tab_len]; exact M1.out)
  rw [boxL, tab_len] at e1
  rw [boxH, tab_len] at e2
  subst e1; subst e2
  obtain ⟨pi, ci, e3, _⟩ := o3.rd
  rw [← I.out] at e3
  subst e3
  have NE : Hid (gh ≠ gl ∧ (Value.slice pi ni ci).ownBlock ≠ some gl ∧ gl < w1.heap.size ∧ w.heap.size ≤ gl) := by
    have o5 := o4 gl (by simp [Value.ownBlock])
    refine ⟨fun e => o5.1 (by simp [Value.ownBlock, e]), o5.2, b2, b1⟩
  have G1 : Gb w (w1.alloc (.cells #[.int .i64 2, .slice (some ⟨gl, 0, none⟩) m cl, .slice (some ⟨gh, 0, none⟩) m ch, .int .u64 0, .int .u64 0, .slice pi ni ci] 36)) := gb_alloc g1 _
  have OA : Hid (Own w1 w.heap.size (.slice (some ⟨gl, 0, none⟩) m cl) (boxL rs m) ∧ Own w1 w.heap.size (.slice (some ⟨gh, 0, none⟩) m ch) (boxH rs m) ∧ Own w1 w.heap.size (.slice pi ni ci) (srt (idsOf rs))) := ⟨o1, o2, o3⟩
  have RA := new6 w1 (.int .i64 2) (.slice (some ⟨gl, 0, none⟩) m cl) (.slice (some ⟨gh, 0, none⟩) m ch) (.int .u64 0) (.int .u64 0) (.slice pi ni ci)
  clear o1 o2 o3 o4 b1 b2 b3 b4 C25
  go_wp2_with fail
  refine (C26 _ G1).mono ?_
  rintro e w2 ⟨vl2, vh2, vi2, rfl, g2, o1, o2, o3, o4⟩
  dsimp only at o1 o2 o3
  obtain ⟨pl2, cl2, e1, _⟩ := o1.rd
  obtain ⟨ph2, ch2, e2, _⟩ := o2.rd
  obtain ⟨pi2, ci2, e3, _⟩ := o3.rd
  rw [← M.out] at e1
  rw [List.length_nil] at e2
  rw [← I.out] at e3
  subst e1; subst e2; subst e3
  have G2 : Gb w2 (w2.alloc (.cells #[.int .i64 3, .slice pl2 m cl2, .slice ph2 0 ch2, .int .u64 (hi R), .int .u64 (lo R), .slice pi2 ni ci2] 36)) := gb_alloc (Below.refl _ _) _
  have RB := new6 w2 (.int .i64 3) (.slice pl2 m cl2) (.slice ph2 0 ch2) (.int .u64 (hi R)) (.int .u64 (lo R)) (.slice pi2 ni ci2)
  have RA := six_keep (gb_trans g2 G2) RA
  have GG := gb_trans (gb_alloc (Below.refl w1.heap.size w1) (.cells #[.int .i64 2, .slice (some ⟨gl, 0, none⟩) m cl, .slice (some ⟨gh, 0, none⟩) m ch, .int .u64 0, .int .u64 0, .slice pi ni ci] 36)) (gb_trans g2 G2)
  have OA := OA.out
  have OZ : Hid (_ ∧ _ ∧ _ ∧ _ ∧ _ ∧ _ ∧ _) := ⟨OA.1.gb GG, OA.2.1.gb GG, OA.2.2.gb GG, o1.rd.gb G2, o2.rd.gb G2, o3.rd.gb G2, gb_trans G1 (gb_trans g2 G2)⟩
  have ZZ : Hid (_ ∧ _) := ⟨RA, RB⟩
  have w12 : w1.heap.size ≠ w2.heap.size := by have := g2.size; rw [World.size_alloc] at this; omega
  clear OA GG RA RB o1 o2 o3 o4 C26 g2 G2 G1 g1
  go_wp2
  generalize w2.alloc (.cells #[.int .i64 3, .slice pl2 m cl2, .slice ph2 0 ch2, .int .u64 (hi R), .int .u64 (lo R), .slice pi2 ni ci2] 36) = W2 at *
  go_loopw [12] (fun iv w' => ∃ k : Nat, iv = .int .i64 (k : Int) ∧ k ≤ n ∧ Hid (Gb W2 w')) (fun iv _ => n - (intOf iv).toNat)
  case atStart => exact ⟨0, rfl, Nat.zero_le _, Below.refl _ _⟩
  case round =>
    obtain ⟨k, rfl, hk, X⟩ := hrel
    by_cases hkn : k < n
    · have hki : (k : Int) < (n : Int) := by omega
      have hkl : k < rs.length := by have := N.out; omega
      obtain ⟨b, o, uk, ea, y0, y1, y2⟩ := A.out k hkl
      subst ea
      have GY : Gb w wr := gb_trans OZ.out.2.2.2.2.2.2 X.out
      have y1 := gb_keeps GY y1
      have Y2 : Hid (RdI wr uk rs[k]!.2) := y2.gb GY
      obtain ⟨pk, ck, ek, _⟩ := y2
      subst ek
      have CA := fun W' (g : Gb wr W') => inA HA.out IL.out hkl (OZ.out.1.gb (gb_trans X.out g)).rd (OZ.out.2.1.gb (gb_trans X.out g)).rd (OZ.out.2.2.1.gb (gb_trans X.out g)).rd (Y2.out.gb g)
      have CB := fun W' (g : Gb wr W') => inB HB.out IL.out hkl (OZ.out.2.2.2.1.gb (gb_trans X.out g)) (OZ.out.2.2.2.2.1.gb (gb_trans X.out g)) (OZ.out.2.2.2.2.2.1.gb (gb_trans X.out g)) (Y2.out.gb g)
      rw [RR.out] at CB
      generalize rs[k]!.2.length = nk at *
      clear y0 Y2 hkl GY
      have dr : Gb wr wr.drew := (Below.refl _ _).drew
      obtain ⟨a0, a1, a2, a3, a4, a5⟩ := six_keep (gb_trans X.out dr) ZZ.out.1
      have yd := gb_keeps dr y1
      go_wp2_with fail
      go_region_held3 (fun w' => w'.cell? ⟨w1.heap.size, 0, none⟩ = some (.int .i64 2) ∧ w'.cell? ⟨w1.heap.size, 1, none⟩ = some (.slice (some ⟨gl, 0, none⟩) m cl) ∧ w'.cell? ⟨w1.heap.size, 2, none⟩ = some (.slice (some ⟨gh, 0, none⟩) m ch) ∧ w'.cell? ⟨w1.heap.size, 3, none⟩ = some (.int .u64 0) ∧ w'.cell? ⟨w1.heap.size, 4, none⟩ = some (.int .u64 0) ∧ w'.cell? ⟨w1.heap.size, 5, none⟩ = some (.slice pi ni ci) ∧ w'.cell? ⟨b, o + k * 2 + 1, none⟩ = some (.slice pk nk ck)) (first | (with_reducible exact seven_gb (by assumption) (by assumption)) | exact ⟨a0, a1, a2, a3, a4, a5, yd⟩)
        (first
          | (go_at_call 18; refine (CA _ dr).mono ?_; rintro e w3 ⟨rfl, g3⟩))
      all_goals
        have G3 := gb_trans dr g3
        have d3 : Gb w3 w3.drew := (Below.refl _ _).drew
        have G4 := gb_trans G3 d3
        clear a0 a1 a2 a3 a4 a5 yd CA
        obtain ⟨a0, a1, a2, a3, a4, a5⟩ := six_keep (gb_trans X.out G4) ZZ.out.2
        have yd := gb_keeps G4 y1
        go_wp2_with fail
        go_region_held3 (fun w' => w'.cell? ⟨w2.heap.size, 0, none⟩ = some (.int .i64 3) ∧ w'.cell? ⟨w2.heap.size, 1, none⟩ = some (.slice pl2 m cl2) ∧ w'.cell? ⟨w2.heap.size, 2, none⟩ = some (.slice ph2 0 ch2) ∧ w'.cell? ⟨w2.heap.size, 3, none⟩ = some (.int .u64 (hi R)) ∧ w'.cell? ⟨w2.heap.size, 4, none⟩ = some (.int .u64 (lo R)) ∧ w'.cell? ⟨w2.heap.size, 5, none⟩ = some (.slice pi2 ni ci2) ∧ w'.cell? ⟨b, o + k * 2 + 1, none⟩ = some (.slice pk nk ck)) (first | (with_reducible exact seven_gb (by assumption) (by assumption)) | exact ⟨a0, a1, a2, a3, a4, a5, yd⟩)
          (first
            | (go_at_call 18; refine (CB _ G4).mono ?_; rintro e w4 ⟨rfl, g4⟩))
        all_goals
          clear a0 a1 a2 a3 a4 a5 yd CB
          go_wp2
          go_roundw
          case rel => exact ⟨k + 1, by simp, hkn, gb_trans X.out (gb_trans G4 g4)⟩
          case measure => simp [intOf]; omega
    · have hki : ¬ (k : Int) < (n : Int) := by omega
      obtain ⟨a0, a1, a2, a3, a4, a5⟩ := six_keep X.out ZZ.out.1
      have GY : Gb w wr := gb_trans OZ.out.2.2.2.2.2.2 X.out
      by_cases hp0 : p < 0
      · go_wp2
        go_quiet (fail)
        go_wp2_with fail
        refine (awake_any _).mono ?_
        rintro e w5 ⟨rfl, g5⟩
        go_wp2
        go_ret
        exact ⟨rfl, gb_trans (below_drewN GY _) g5⟩
      by_cases hpm : p ≥ (m : Int)
      · have h1 : decide (p < 0) = false := decide_eq_false hp0
        have h3 : (m : Int) ≤ p := hpm
        clear hp0 hpm a0 a1 a2 a3 a4 a5
        go_wp2
        go_quiet (fail)
        go_wp2_with fail
        refine (awake_any _).mono ?_
        rintro e w5 ⟨rfl, g5⟩
        go_wp2
        go_ret
        exact ⟨rfl, gb_trans (below_drewN GY _) g5⟩
      obtain ⟨q, hq⟩ : ∃ q : Nat, p = (q : Int) := ⟨p.toNat, by omega⟩
      subst hq
      have hqm : q < m := by omega
      have OL := OZ.out.1.gb X.out
      have OH := OZ.out.2.1.gb X.out
      have OI := OZ.out.2.2.1.gb X.out
      obtain ⟨c1, f1⟩ := Own.at (f := loAt rs rs.length) OL hqm
      obtain ⟨c2, _⟩ := Own.at (f := hiAt rs rs.length) OH hqm
      have hxb : -2147483647 ≤ loAt rs rs.length q ∧ loAt rs rs.length q ≤ 2147483647 := by
        obtain ⟨_, _, n1, _, _, hv⟩ := rows_of HA.out
        obtain ⟨t, ht, e⟩ := lo_is n1 q
        rw [e]
        exact allR_get (hv t ht).2 (by rw [(hv t ht).1]; exact hqm)
      have OX : Hid (Own wr w.heap.size (.slice (some ⟨gl, 0, none⟩) m cl) (tab (loAt rs rs.length) m) ∧ Own wr w.heap.size (.slice (some ⟨gh, 0, none⟩) m ch) (boxH rs m) ∧ Own wr w.heap.size (.slice pi ni ci) (srt (idsOf rs))) := ⟨OL, OH, OI⟩
      clear OL OH OI
      obtain ⟨x, hx⟩ : ∃ x, x = loAt rs rs.length q := ⟨_, rfl⟩
      obtain ⟨y, hy⟩ : ∃ y, y = hiAt rs rs.length q := ⟨_, rfl⟩
      have HX : Hid (x = loAt rs rs.length q ∧ y = hiAt rs rs.length q) := ⟨hx, hy⟩
      rw [← hx] at c1 hxb
      rw [← hy] at c2
      clear hx hy
      by_cases hge : x ≥ y
      · go_wp2
        go_quiet (fail)
        go_wp2_with fail
        refine (awake_any _).mono ?_
        rintro e w5 ⟨rfl, g5⟩
        go_wp2
        go_ret
        exact ⟨rfl, gb_trans (below_drewN GY _) g5⟩
      have HLT : Hid (loAt rs rs.length q < hiAt rs rs.length q) := by
        obtain ⟨e1, e2⟩ := HX.out
        unfold Hid
        omega
      have OC : Hid (∀ j, Own ((wr.drewN j).setCell ⟨gl, q, none⟩ (.int .i64 (x + 1))) w.heap.size (.slice (some ⟨gl, 0, none⟩) m cl) (tab (cutF rs q) m) ∧ Own ((wr.drewN j).setCell ⟨gl, q, none⟩ (.int .i64 (x + 1))) w.heap.size (.slice (some ⟨gh, 0, none⟩) m ch) (boxH rs m) ∧ Own ((wr.drewN j).setCell ⟨gl, q, none⟩ (.int .i64 (x + 1))) w.heap.size (.slice pi ni ci) (srt (idsOf rs)) ∧ Gb w ((wr.drewN j).setCell ⟨gl, q, none⟩ (.int .i64 (x + 1)))) := by
        intro j
        obtain ⟨n1, n2, n3, n4⟩ := NE.out
        obtain ⟨o1, o2, o3⟩ := OX.out
        have gj : Gb wr (wr.drewN j) := below_drewN (Below.refl _ _) j
        have o1 := own_set (o1.gb gj) hqm (x + 1)
        rw [HX.out.1] at o1 ⊢
        exact ⟨o1, ownsRow_setCell_other (o2.gb gj) (by simp [Value.ownBlock]; exact n1) _, ownsRow_setCell_other (o3.gb gj) n2 _, gb_set (gb_trans GY gj) n4 _⟩
      have CC : Hid (∀ j, ((wr.drewN j).setCell ⟨gl, q, none⟩ (.int .i64 (x + 1))).cell? ⟨w1.heap.size, 0, none⟩ = some (.int .i64 2) ∧ ((wr.drewN j).setCell ⟨gl, q, none⟩ (.int .i64 (x + 1))).cell? ⟨w1.heap.size, 1, none⟩ = some (.slice (some ⟨gl, 0, none⟩) m cl) ∧ ((wr.drewN j).setCell ⟨gl, q, none⟩ (.int .i64 (x + 1))).cell? ⟨w1.heap.size, 2, none⟩ = some (.slice (some ⟨gh, 0, none⟩) m ch) ∧ ((wr.drewN j).setCell ⟨gl, q, none⟩ (.int .i64 (x + 1))).cell? ⟨w1.heap.size, 3, none⟩ = some (.int .u64 0) ∧ ((wr.drewN j).setCell ⟨gl, q, none⟩ (.int .i64 (x + 1))).cell? ⟨w1.heap.size, 4, none⟩ = some (.int .u64 0) ∧ ((wr.drewN j).setCell ⟨gl, q, none⟩ (.int .i64 (x + 1))).cell? ⟨w1.heap.size, 5, none⟩ = some (.slice pi ni ci)) := by
        intro j
        obtain ⟨n1, n2, n3, n4⟩ := NE.out
        have gj : Gb wr (wr.drewN j) := below_drewN (Below.refl _ _) j
        obtain ⟨z0, z1, z2, z3, z4, z5⟩ := six_keep gj ⟨a0, a1, a2, a3, a4, a5⟩
        have nn : gl ≠ w1.heap.size := by omega
        refine ⟨?_, ?_, ?_, ?_, ?_, ?_⟩ <;> (rw [World.cell?_setCell_far _ _ _ _ nn]; assumption)
      have TOP : Hid (∃ j, j < rs.length ∧ insV (cutR rs m q) rs[j]!.2 = false) := cut_out HA.out hqm HLT.out
      have IC := fun k (hk : k < rs.length) (W : World) (vl vh vi uk : Value) r1 r2 r3 r4 => inC (W := W) (vl := vl) (vh := vh) (vi := vi) (uk := uk) HA.out hqm HLT.out IL.out hk r1 r2 r3 r4
      have IC : Hid _ := IC
      go_wp2
      go_quiet (fail)
      clear a0 a2 a3 a4 a5
      go_wp2
      generalize decide ((q : Int) < 0) = d1
      generalize decide (m ≤ q) = d2
      generalize decide (y ≤ x) = d3
      have OC := OC.out nq
      have CC := CC.out nq
      have OC : Hid _ := OC
      have CC : Hid _ := CC
      generalize (wr.drewN nq).setCell ⟨gl, q, none⟩ (.int .i64 (x + 1)) = W3 at *
      go_loopw [17] (fun iv w' => ∃ k : Nat, iv = .int .i64 (k : Int) ∧ k ≤ n ∧ Hid ((∀ j, j < k → insV (cutR rs m q) rs[j]!.2 = true) ∧ Gb W3 w')) (fun iv _ => n - (intOf iv).toNat)
      case atStart => exact ⟨0, rfl, Nat.zero_le _, ⟨fun j hj => absurd hj (Nat.not_lt_zero _), Below.refl _ _⟩⟩
      case round =>
        clear c1 c2 f1 hxb OX HX hp0 hpm hge a1
        obtain ⟨t, rfl, ht, Y⟩ := hrel
        by_cases htn : t < n
        · have hti : (t : Int) < (n : Int) := by omega
          have htl : t < rs.length := by have := N.out; omega
          obtain ⟨b, o, uk, ea, y0, y1, y2⟩ := A.out t htl
          subst ea
          have GZ : Gb w wr := gb_trans OC.out.2.2.2 Y.out.2
          have y1 := gb_keeps GZ y1
          have Y2 : Hid (RdI wr uk rs[t]!.2) := y2.gb GZ
          obtain ⟨pk, ck, ek, _⟩ := y2
          subst ek
          have CA := fun W' (g : Gb wr W') => IC.out t htl W' _ _ _ _ (OC.out.1.gb (gb_trans Y.out.2 g)).rd (OC.out.2.1.gb (gb_trans Y.out.2 g)).rd (OC.out.2.2.1.gb (gb_trans Y.out.2 g)).rd (Y2.out.gb g)
          generalize rs[t]!.2.length = nk at *
          have EV : Hid (∃ bv, insV (cutR rs m q) rs[t]!.2 = bv) := ⟨_, rfl⟩
          obtain ⟨bv, hbv⟩ := EV.out
          simp only [hbv] at CA
          have HBV : Hid (insV (cutR rs m q) rs[t]!.2 = bv) := hbv
          clear y0 Y2 EV hbv htl
          have dr : Gb wr wr.drew := (Below.refl _ _).drew
          obtain ⟨a0, a1, a2, a3, a4, a5⟩ := six_keep (gb_trans Y.out.2 dr) CC.out
          have yd := gb_keeps dr y1
          go_wp2_with fail
          go_region_held3 (fun w' => w'.cell? ⟨w1.heap.size, 0, none⟩ = some (.int .i64 2) ∧ w'.cell? ⟨w1.heap.size, 1, none⟩ = some (.slice (some ⟨gl, 0, none⟩) m cl) ∧ w'.cell? ⟨w1.heap.size, 2, none⟩ = some (.slice (some ⟨gh, 0, none⟩) m ch) ∧ w'.cell? ⟨w1.heap.size, 3, none⟩ = some (.int .u64 0) ∧ w'.cell? ⟨w1.heap.size, 4, none⟩ = some (.int .u64 0) ∧ w'.cell? ⟨w1.heap.size, 5, none⟩ = some (.slice pi ni ci) ∧ w'.cell? ⟨b, o + t * 2 + 1, none⟩ = some (.slice pk nk ck)) (first | (with_reducible exact seven_gb (by assumption) (by assumption)) | exact ⟨a0, a1, a2, a3, a4, a5, yd⟩)
            (first
              | (go_at_call 18; refine (CA _ dr).mono ?_; rintro e w3 ⟨rfl, g3⟩))
          all_goals
            have G3 := gb_trans dr g3
            clear a0 a1 a2 a3 a4 a5 yd CA
            cases bv with
            | false =>
              go_wp2_with fail
              refine (awake_any _).mono ?_
              rintro e w5 ⟨rfl, g5⟩
              go_wp2
              go_ret
              exact ⟨rfl, gb_trans (gb_trans GZ G3) g5⟩
            | true =>
              go_wp2
              go_roundw
              case rel =>
                have IV : ∀ j, j < t + 1 → insV (cutR rs m q) rs[j]!.2 = true := by
                  intro j hj
                  by_cases e : j = t
                  · subst e; exact HBV.out
                  · exact Y.out.1 j (by omega)
                exact ⟨t + 1, by go_num, htn, ⟨IV, gb_trans Y.out.2 G3⟩⟩
              case measure => simp [intOf]; omega
        · exfalso
          obtain ⟨j, hj, e⟩ := TOP.out
          have := Y.out.1 j (by have := N.out; omega)
          rw [this] at e
          cases e
end Go.Proofs.Ytnhaloeeaejedaa
