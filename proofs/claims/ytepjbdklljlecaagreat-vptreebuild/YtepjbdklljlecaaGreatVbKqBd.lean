/- VptreeBuild's walk. -/
import Derived.Test.YtepjbdklljlecaaGreatVbKqLo
import Derived.Test.YtepjbdklljlecaaGreatVb49
import Derived.Test.YtepjbdklljlecaaGreatVbKqBg2
import Derived.Test.YtepjbdklljlecaaGreatVb44
import Derived.Test.YtepjbdklljlecaaGreatVb45
import Derived.Test.YtepjbdklljlecaaGreatVb47
namespace Go.Proofs.YtepjbdklljlecaaGreat
open Go.RowKit Go.Sort

set_option maxRecDepth 100000 in
set_option maxHeartbeats 4000000 in
theorem build_law_no {w : World} {v : Value} {l : List Rw} (hv : RdW w v l) (hwf : Wf l) (hrow : ∀ i, i < l.length → l[i]!.2.length ≤ 4611686018427387904) (d A B S : Int) (hz : bldE l d A ≠ 0) :
    Calls Tryz.prog 3 #[v, .int .i64 d, .agg #[.int .i64 A, .int .i64 B, .int .u64 S]] w fun e w' => e = .returned (.bool true) ∧ Gb w w' := by
  have g1 : Gb w (w.alloc (.cells #[.int .i64 A, .int .i64 B, .int .u64 S] 25)) := gb_alloc (Below.refl _ _) _
  obtain ⟨w1, hw1⟩ : ∃ w1, w1 = w.alloc (.cells #[.int .i64 A, .int .i64 B, .int .u64 S] 25) := ⟨_, rfl⟩
  rw [← hw1] at g1
  have c0 : w1.cell? ⟨w.heap.size, 0, none⟩ = some (.int .i64 A) := by rw [hw1]; simp [go_sem]
  have c1 : w1.cell? ⟨w.heap.size, 1, none⟩ = some (.int .i64 B) := by rw [hw1]; simp [go_sem]
  have c2 : w1.cell? ⟨w.heap.size, 2, none⟩ = some (.int .u64 S) := by rw [hw1]; simp [go_sem]
  have cB := kbig_f (hv.gb g1) hwf.1 hrow (rdo_nil w1) (fun i hi => absurd hi (Nat.not_lt_zero _))
  have cW := fun W (g : Gb w W) => kwrong_c (hv.gb g) hwf.1 d A B S
  have CW : Hid _ := cW
  have cU := fun W v' (h : RdW W v' l) => kbuild_no h hwf d A B S hz
  have CU : Hid _ := cU
  clear cW cU
  have HV : Hid (RdW w v l) := hv
  obtain ⟨av, cv, ev, _⟩ := hv
  subst ev
  obtain ⟨n, hn⟩ : ∃ n, n = l.length := ⟨_, rfl⟩
  have NL : Hid (n = l.length) := hn
  rw [← hn] at HV cB ⊢
  simp only [← hn] at CW
  clear hn hwf hrow
  generalize bldE l d A = z at *
  have hzb : (z == 0) = false := by rw [beq_eq_false_iff_ne]; exact hz
  have hzn : (z != 0) = true := by rw [bne, hzb]; rfl
  go_enter Tryz.func3, Tryz.ntmps3
  go_wp2_with fail
  rw [← hw1]
  clear hw1
  refine cB.mono ?_
  rintro e w2 ⟨bb, rfl, g2, hfit⟩
  have d0 := gb_keeps g2 c0
  have d1 := gb_keeps g2 c1
  have d2 := gb_keeps g2 c2
  have G2 : Hid (Gb w w2) := gb_trans g1 g2
  clear cB c0 c1 c2
  cases bb with
  | true =>
    clear hfit d0 d1 d2
    go_wp2
    refine bodyPost_ret (v := .bool true) (by simp [results, Tryz.results3, go_sem]) rfl ⟨rfl, ?_⟩
    exact G2.out
  | false =>
    have FT : Hid (Fit l []) := hfit rfl
    have V2 : Hid (RdW w2 (.slice av n cv) l) := HV.out.gb G2.out
    have cW := CW.out w2 G2.out
    clear hfit g1 g2
    go_wp2_with fail
    refine cW.mono ?_
    rintro e w3 ⟨rfl, g3⟩
    have d0 := gb_keeps g3 d0
    have d1 := gb_keeps g3 d1
    have d2 := gb_keeps g3 d2
    have V3 : Hid (RdW w3 (.slice av n cv) l) := V2.out.gb g3
    have G3 : Hid (Gb w w3) := gb_trans G2.out g3
    have cL := lendrows_c V3.out (by have := FT.out.rows; omega) (fun i hi => by have := FT.out.row i hi; omega)
    rw [← NL.out] at cL
    clear cW g3 V2
    go_wp2_with fail
    refine cL.mono ?_
    rintro e w4 ⟨G, rfl, hL⟩
    have g4 : Gb w3 w4 := by obtain ⟨f, h⟩ := hL; exact h.gb
    have d0 := gb_keeps g4 d0
    have d1 := gb_keeps g4 d1
    have d2 := gb_keeps g4 d2
    have HL : Hid (LentR w3 w4 G l) := hL
    have G4 : Hid (Gb w3 w4) := g4
    have cU := CU.out w4 (.slice (some ⟨G, 0, none⟩) n (n + 1)) (by have := hL.rd; rw [← NL.out] at this; exact this)
    clear cL hL g4 CU
    go_wp2_with fail
    refine cU.mono ?_
    rintro e w5 ⟨rfl, g5⟩
    have G5 : Hid (Gb w4 w5) := g5
    have cK : Calls Tryz.prog 13 #[.slice (some ⟨G, 0, none⟩) n (n + 1), .slice av n cv] w5 fun e w' => e = .returned (.bool true) ∧ Mid w3.heap.size w4.heap.size w5 w' := by
      obtain ⟨f, gs, hl⟩ := HL.out.lt
      have hl5 := hl.keep (W' := w5) (fun k _ hk => G5.out.block k hk)
      have := backrows_c hl5 (gb_trans G4.out G5.out) (Nat.le_refl _) V3.out (by have := FT.out.rows; omega) (fun i hi => by have := FT.out.row i hi; omega)
      rw [← NL.out] at this
      exact this
    clear cU g5 d0 d1 d2
    go_wp2_with fail
    refine cK.mono ?_
    rintro e w6 ⟨rfl, mid⟩
    have G6 : Hid (Gb w w6) := mid.gb (gb_trans G3.out (gb_trans G4.out G5.out)) G3.out.size
    clear cK mid
    go_wp2_with fail
    refine (kawake_c _).mono ?_
    rintro e w7 ⟨rfl, g7⟩
    have G7 : Hid (Gb w w7) := gb_trans G6.out g7
    clear g7
    go_wp2
    refine bodyPost_ret (v := .bool true) (by simp [results, Tryz.results3, go_sem]) rfl ⟨rfl, ?_⟩
    exact G7.out

set_option maxRecDepth 100000 in
set_option maxHeartbeats 4000000 in
theorem build_law_ok {w : World} {v : Value} {l : List Rw} (hv : RdW w v l) (hwf : Wf l) (hrow : ∀ i, i < l.length → l[i]!.2.length ≤ 4611686018427387904) {m lf : Nat} (B S : Int) (hz : flatE l (m : Int) = 0) (hlf : 1 ≤ lf ∧ lf ≤ 64) (hus : Rn.U S) :
    Calls Tryz.prog 3 #[v, .int .i64 (m : Int), .agg #[.int .i64 (lf : Int), .int .i64 B, .int .u64 S]] w fun e w' => e = .returned (.bool true) ∧ Gb w w' := by
  have g1 : Gb w (w.alloc (.cells #[.int .i64 (lf : Int), .int .i64 B, .int .u64 S] 25)) := gb_alloc (Below.refl _ _) _
  obtain ⟨w1, hw1⟩ : ∃ w1, w1 = w.alloc (.cells #[.int .i64 (lf : Int), .int .i64 B, .int .u64 S] 25) := ⟨_, rfl⟩
  rw [← hw1] at g1
  have c0 : w1.cell? ⟨w.heap.size, 0, none⟩ = some (.int .i64 (lf : Int)) := by rw [hw1]; simp [go_sem]
  have c1 : w1.cell? ⟨w.heap.size, 1, none⟩ = some (.int .i64 B) := by rw [hw1]; simp [go_sem]
  have c2 : w1.cell? ⟨w.heap.size, 2, none⟩ = some (.int .u64 S) := by rw [hw1]; simp [go_sem]
  have cB := kbig_f (hv.gb g1) hwf.1 hrow (rdo_nil w1) (fun i hi => absurd hi (Nat.not_lt_zero _))
  have cW := fun W (g : Gb w W) => kwrong_c (hv.gb g) hwf.1 (m : Int) (lf : Int) B S
  have hb0 : bldE l (m : Int) (lf : Int) = 0 := by unfold bldE; rw [if_pos hz, if_pos (by omega)]
  rw [hb0] at cW
  have CW : Hid _ := cW
  have ROK : Hid (RowsOk l (m : Int)) := (flatE_zero.1 hz).2
  have cU := fun W v' (h : RdW W v' l) => kbuild_ok (Iq := fun k => W.heap.size ≤ k) (fun k hk => hk) h hwf (m := m) hz hlf B S hus
  have CU : Hid _ := cU
  clear cW cU hb0
  have HV : Hid (RdW w v l) := hv
  obtain ⟨av, cv, ev, _⟩ := hv
  subst ev
  obtain ⟨n, hn⟩ : ∃ n, n = l.length := ⟨_, rfl⟩
  have NL : Hid (n = l.length) := hn
  rw [← hn] at HV cB ⊢
  simp only [← hn] at CW
  clear hn hwf hrow hz hlf hus
  go_enter Tryz.func3, Tryz.ntmps3
  go_wp2_with fail
  rw [← hw1]
  clear hw1
  refine cB.mono ?_
  rintro e w2 ⟨bb, rfl, g2, hfit⟩
  have d0 := gb_keeps g2 c0
  have d1 := gb_keeps g2 c1
  have d2 := gb_keeps g2 c2
  have G2 : Hid (Gb w w2) := gb_trans g1 g2
  clear cB c0 c1 c2
  cases bb with
  | true =>
    clear hfit d0 d1 d2
    go_wp2
    refine bodyPost_ret (v := .bool true) (by simp [results, Tryz.results3, go_sem]) rfl ⟨rfl, ?_⟩
    exact G2.out
  | false =>
    have FT : Hid (Fit l []) := hfit rfl
    have V2 : Hid (RdW w2 (.slice av n cv) l) := HV.out.gb G2.out
    have cW := CW.out w2 G2.out
    clear hfit g1 g2
    go_wp2_with fail
    refine cW.mono ?_
    rintro e w3 ⟨rfl, g3⟩
    have d0 := gb_keeps g3 d0
    have d1 := gb_keeps g3 d1
    have d2 := gb_keeps g3 d2
    have V3 : Hid (RdW w3 (.slice av n cv) l) := V2.out.gb g3
    have G3 : Hid (Gb w w3) := gb_trans G2.out g3
    have cL := lendrows_c V3.out (by have := FT.out.rows; omega) (fun i hi => by have := FT.out.row i hi; omega)
    rw [← NL.out] at cL
    clear cW g3 V2
    go_wp2_with fail
    refine cL.mono ?_
    rintro e w4 ⟨G, rfl, hL⟩
    have g4 : Gb w3 w4 := by obtain ⟨f, h⟩ := hL; exact h.gb
    have d0 := gb_keeps g4 d0
    have d1 := gb_keeps g4 d1
    have d2 := gb_keeps g4 d2
    have HL : Hid (LentR w3 w4 G l) := hL
    have G4 : Hid (Gb w3 w4) := g4
    have cU := CU.out w4 (.slice (some ⟨G, 0, none⟩) n (n + 1)) (by have := hL.rd; rw [← NL.out] at this; exact this)
    clear cL hL g4 CU
    go_wp2_with fail
    refine cU.mono ?_
    intro e w5 hO
    obtain ⟨tb, rs', FF, rfl, ht, pm, g5, hF⟩ := hO
    have HT : Hid (TreeAt (fun k => w4.heap.size ≤ k) w5 tb m lf rs' FF ∧ rs'.Perm l ∧ ∀ x ∈ FF, w4.heap.size ≤ x) := ⟨ht, pm, hF⟩
    clear ht pm hF
    have G5 : Hid (Gb w4 w5) := g5
    have cK : Calls Tryz.prog 13 #[.slice (some ⟨G, 0, none⟩) n (n + 1), .slice av n cv] w5 fun e w' => e = .returned (.bool true) ∧ Mid w3.heap.size w4.heap.size w5 w' := by
      obtain ⟨f, gs, hl⟩ := HL.out.lt
      have hl5 := hl.keep (W' := w5) (fun k _ hk => G5.out.block k hk)
      have := backrows_c hl5 (gb_trans G4.out G5.out) (Nat.le_refl _) V3.out (by have := FT.out.rows; omega) (fun i hi => by have := FT.out.row i hi; omega)
      rw [← NL.out] at this
      exact this
    clear cU g5 d0 d1 d2
    go_wp2_with fail
    refine cK.mono ?_
    rintro e w6 ⟨rfl, mid⟩
    have G6 : Hid (Gb w w6) := mid.gb (gb_trans G3.out (gb_trans G4.out G5.out)) G3.out.size
    have T6 : Hid (TreeAt (fun k => w4.heap.size ≤ k) w6 tb m lf rs' FF) := HT.out.1.mid mid HT.out.2.2
    have V6 : Hid (RdW w6 (.slice av n cv) l) := HV.out.gb G6.out
    clear cK mid
    go_wp2_with fail
    refine (kawake_c _).mono ?_
    rintro e w7 ⟨rfl, g7⟩
    have cO := tof_c (m := m) (V6.out.gb g7) ROK.out T6.out.ris HT.out.2.1
    have T7 : Hid (TreeAt (fun k => w4.heap.size ≤ k) w7 tb m lf rs' FF) := T6.out.gb g7
    have G7 : Hid (Gb w w7) := gb_trans G6.out g7
    clear g7 T6 V6
    go_wp2_with fail
    refine cO.mono ?_
    intro e w8 hO
    obtain ⟨ub, GG, rfl, tt, _, g8⟩ := hO
    have cQ := klooks_c (T7.out.gb g8) tt
    have G8 : Hid (Gb w w8) := gb_trans G7.out g8
    clear cO tt g8 T7
    go_wp2_with fail
    refine cQ.mono ?_
    rintro e w9 ⟨rfl, g9⟩
    have G9 : Hid (Gb w w9) := gb_trans G8.out g9
    clear cQ g9
    go_wp2
    refine bodyPost_ret (v := .bool true) (by simp [results, Tryz.results3, go_sem]) rfl ⟨rfl, ?_⟩
    exact G9.out

end Go.Proofs.YtepjbdklljlecaaGreat
