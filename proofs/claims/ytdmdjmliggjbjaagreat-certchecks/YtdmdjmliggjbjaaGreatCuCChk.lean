/- CertChecks' walk. -/
import Derived.Test.YtdmdjmliggjbjaaGreatCt42
import Derived.Test.YtdmdjmliggjbjaaGreatCt41
import Derived.Test.YtdmdjmliggjbjaaGreatCuCLn
import Derived.Test.YtdmdjmliggjbjaaGreatCuCRW
import Derived.Test.YtdmdjmliggjbjaaGreatCuCAn
namespace Go.Proofs.YtdmdjmliggjbjaaGreat
open Go.RowKit Go.Sort Go.Maps Go.Shelf

theorem LnOut.rd {w w' : World} {a : Ans} {e : Ending} (h : LnOut w a e w') : ∃ x3 y3 x4 y4 x5 y5, e = .returned (.agg #[.slice x3 a.hits.length y3, .slice x4 a.seen.length y4, .slice x5 a.rest.length y5]) ∧ Gb w w' ∧ RdA w' (.slice x3 a.hits.length y3) (.slice x4 a.seen.length y4) (.slice x5 a.rest.length y5) a := by
  obtain ⟨uh, us, ur, B, B2, rfl, g, _, oh, os, _, ol⟩ := h
  obtain ⟨x3, y3, rfl⟩ := row_fm oh
  obtain ⟨x4, y4, rfl⟩ := row_fm os
  obtain ⟨xs, ho, hx⟩ := ol
  obtain ⟨x5, y5, rfl⟩ := row_fm ho
  exact ⟨x3, y3, x4, y4, x5, y5, rfl, g, oh.rd, os.rd, OwnL.rd ⟨xs, ho, hx⟩⟩
theorem ce_one {rs : List Rw} {q : List Int} {k : Int} {a : Ans} {b c : Bool} (h : (topE rs q k ≠ 0 → b = false) ∧ (topE rs q k = 0 → (b = true ↔ SoundQ rs q k.toNat a ∧ certB q k.toNat a = true))) (h' : (topE rs q k ≠ 0 → c = false) ∧ (topE rs q k = 0 → (c = true ↔ SoundQ rs q k.toNat a ∧ certB q k.toNat a = true))) : b = c := by
  by_cases ht : topE rs q k = 0
  · exact bool_one (h.2 ht) (h'.2 ht)
  · rw [h.1 ht, h'.1 ht]
set_option maxRecDepth 100000 in
set_option maxHeartbeats 2000000 in
theorem checks_law {w : World} {v u vh vs vr : Value} {rs : List Rw} {q : List Int} {a : Ans} {k : Int} (hv : RdW w v rs) (hu : RdI w u q) (ha : RdAN w vh vs vr a) (hin : AnsIn a) (hwf : Wf rs) (hq : q.length ≤ reachBytes) :
    Calls Tryz.prog 3 #[v, u, .int .i64 k, .agg #[vh, vs, vr]] w fun e w' => e = .returned (.bool true) ∧ Gb w w' := by
  obtain ⟨W0, hW0⟩ : ∃ W0, W0 = w.alloc (.cells #[vh, vs, vr] 27) := ⟨_, rfl⟩
  have G0 : Hid (Gb w W0) := by unfold Hid; rw [hW0]; exact gb_alloc (Below.refl _ _) _
  have cb := big_c (hv.gb G0.out) (hu.gb G0.out) (ha.rd.gb G0.out) (by have := hwf.1; omega) hq hin
  have V : Hid (RdW w v rs) := hv
  have U : Hid (RdI w u q) := hu
  have A : Hid (RdAN w vh vs vr a) := ha
  have HI : Hid (AnsIn a ∧ Wf rs) := ⟨hin, hwf⟩
  have BX : Hid (W0.cell? ⟨w.heap.size, 0, none⟩ = some vh ∧ W0.cell? ⟨w.heap.size, 1, none⟩ = some vs ∧ W0.cell? ⟨w.heap.size, 2, none⟩ = some vr) := by
    unfold Hid; rw [hW0]; exact ⟨by simp [go_sem], by simp [go_sem], by simp [go_sem]⟩
  obtain ⟨x1, y1, rfl, z1⟩ := hv
  obtain ⟨x2, y2, rfl, z2⟩ := hu
  obtain ⟨x3, y3, evh, z3⟩ := ha.hits.form
  obtain ⟨x4, y4, evs, z4⟩ := ha.seen
  obtain ⟨x5, y5, evr, z5⟩ := ha.rest
  subst evh; subst evs; subst evr
  clear z1 z2 z3 z4 z5 ha hin hwf hq
  obtain ⟨n3, hn3⟩ : ∃ n, n = a.hits.length := ⟨_, rfl⟩
  obtain ⟨n4, hn4⟩ : ∃ n, n = a.seen.length := ⟨_, rfl⟩
  obtain ⟨n5, hn5⟩ : ∃ n, n = a.rest.length := ⟨_, rfl⟩
  have NN : Hid (n3 = a.hits.length ∧ n4 = a.seen.length ∧ n5 = a.rest.length) := ⟨hn3, hn4, hn5⟩
  rw [← hn3, ← hn4, ← hn5] at A hW0 BX cb ⊢
  clear hn3 hn4 hn5
  generalize hn1 : rs.length = n1 at *
  generalize hn2 : q.length = n2 at *
  clear hn1 hn2
  go_enter Tryz.func3, Tryz.ntmps3
  go_wp2_with fail
  rw [← hW0]
  go_fit cb
  rintro e w1 ⟨⟨b, rfl, hb⟩, g1⟩
  have G1 : Hid (Gb W0 w1) := g1
  have GW : Hid (Gb w w1) := gb_trans G0.out g1
  clear cb g1 hW0
  cases b with
  | true =>
    go_wp2
    go_ret
    exact ⟨rfl, GW.out⟩
  | false =>
    have SM : Hid (Small rs q a) := hb rfl
    have IA : Hid (InA a) := SM.out.inA HI.out.1
    have cl := lent_c (A.out.gb GW.out) IA.out (fun r hr => by have := SM.out.vec r hr; omega)
    obtain ⟨b0, b1, b2⟩ := BX.out
    have b0 := gb_keeps G1.out b0
    have b1 := gb_keeps G1.out b1
    have b2 := gb_keeps G1.out b2
    clear hb
    go_wp2_with fail
    go_fit cl
    intro e w2 hlo
    obtain ⟨r3, s3, r4, s4, r5, s5, rfl, g2, ro⟩ := hlo.rd
    rw [← NN.out.1, ← NN.out.2.1, ← NN.out.2.2] at ro ⊢
    obtain ⟨W2, hW2⟩ : ∃ W2, W2 = w2.alloc (.cells #[.slice r3 n3 s3, .slice r4 n4 s4, .slice r5 n5 s5] 27) := ⟨_, rfl⟩
    have G2 : Hid (Gb W0 W2) := by unfold Hid; rw [hW2]; exact gb_alloc (gb_trans G1.out g2) _
    have GW2 : Hid (Gb w W2) := gb_trans G0.out G2.out
    have RO : Hid (RdA W2 (.slice r3 n3 s3) (.slice r4 n4 s4) (.slice r5 n5 s5) a) := by unfold Hid; rw [hW2]; exact ro.gb (gb_alloc (Below.refl _ _) _)
    have OX : Hid (W2.cell? ⟨w2.heap.size, 0, none⟩ = some (.slice r3 n3 s3) ∧ W2.cell? ⟨w2.heap.size, 1, none⟩ = some (.slice r4 n4 s4) ∧ W2.cell? ⟨w2.heap.size, 2, none⟩ = some (.slice r5 n5 s5)) := by
      unfold Hid; rw [hW2]; exact ⟨by simp [go_sem], by simp [go_sem], by simp [go_sem]⟩
    have c1 := Sound_c (k := k) (V.out.gb GW2.out) (U.out.gb GW2.out) RO.out IA.out HI.out.2
    clear cl hlo ro b0 b1 b2 g2
    go_wp2_with fail
    rw [← hW2]
    go_fit c1
    rintro e w3 ⟨s, rfl, g3, hs1, hs2⟩
    have HS : Hid ((topE rs q k ≠ 0 → s = false) ∧ (topE rs q k = 0 → (s = true ↔ SoundQ rs q k.toNat a))) := ⟨hs1, hs2⟩
    have G3 : Hid (Gb W2 w3) := g3
    have GW3 : Hid (Gb w w3) := gb_trans GW2.out g3
    clear c1 g3 hs1 hs2 hW2
    obtain ⟨x, hx⟩ : ∃ x, x = topE rs q k := ⟨_, rfl⟩
    have HX : Hid (x = topE rs q k) := hx
    rw [← hx]
    clear hx
    have c2 := Certain_c (k := k) (V.out.gb GW3.out) (U.out.gb GW3.out) (RO.out.gb G3.out) IA.out HI.out.2
    obtain ⟨b0, b1, b2⟩ := OX.out
    have b0 := gb_keeps G3.out b0
    have b1 := gb_keeps G3.out b1
    have b2 := gb_keeps G3.out b2
    go_wp2_with fail
    go_fit c2
    rintro e w4 ⟨c, rfl, g4, hc1, hc2⟩
    have HC : Hid ((topE rs q k ≠ 0 → c = false) ∧ (topE rs q k = 0 → (c = true ↔ SoundQ rs q k.toNat a ∧ certB q k.toNat a = true))) := ⟨hc1, hc2⟩
    have G4 : Hid (Gb W2 w4) := gb_trans G3.out g4
    have GW4 : Hid (Gb w w4) := gb_trans GW2.out G4.out
    clear c2 g4 hc1 hc2 b0 b1 b2
    rw [← HX.out]
    have c3 := rS_c (k := k) (V.out.gb GW4.out) (U.out.gb GW4.out) (A.out.rd.gb GW4.out) IA.out HI.out.2
    obtain ⟨b0, b1, b2⟩ := BX.out
    have b0 := gb_keeps (gb_trans G2.out G4.out) b0
    have b1 := gb_keeps (gb_trans G2.out G4.out) b1
    have b2 := gb_keeps (gb_trans G2.out G4.out) b2
    go_wp2_with fail
    go_fit c3
    rintro e w5 ⟨s', rfl, g5, hs1, hs2⟩
    have ES : s = s' := by
      by_cases ht : topE rs q k = 0
      · exact bool_one (HS.out.2 ht) (hs2 ht)
      · rw [HS.out.1 ht, hs1 ht]
    subst ES
    have G5 : Hid (Gb W2 w5) := gb_trans G4.out g5
    have GW5 : Hid (Gb w w5) := gb_trans GW2.out G5.out
    clear c3 g5 hs1 hs2 b0 b1 b2
    rw [← HX.out]
    have c4 := rC_c (k := k) (V.out.gb GW5.out) (U.out.gb GW5.out) (A.out.rd.gb GW5.out) IA.out HI.out.2
    obtain ⟨b0, b1, b2⟩ := BX.out
    have b0 := gb_keeps (gb_trans G2.out G5.out) b0
    have b1 := gb_keeps (gb_trans G2.out G5.out) b1
    have b2 := gb_keeps (gb_trans G2.out G5.out) b2
    go_wp2_with fail
    go_fit c4
    rintro e w6 ⟨c', rfl, g6, hc1, hc2⟩
    have EC : c = c' := ce_one HC.out ⟨hc1, hc2⟩
    subst EC
    have G6 : Hid (Gb W2 w6) := gb_trans G5.out g6
    have GW6 : Hid (Gb w w6) := gb_trans GW2.out G6.out
    clear c4 g6 hc1 hc2 b0 b1 b2
    rw [← HX.out]
    have ca := awake_c w6
    go_wp2_with fail
    go_fit ca
    rintro e w7 ⟨rfl, g7⟩
    have G7 : Hid (Gb W2 w7) := gb_trans G6.out g7
    have GW7 : Hid (Gb w w7) := gb_trans GW2.out G7.out
    clear ca g7
    have ck := kanswerL_c (RO.out.gb G7.out) (A.out.rd.gb GW7.out) ⟨by have := SM.out.hits; omega, by have := SM.out.ids; unfold allIds at this; rw [List.length_append] at this; omega, by have := SM.out.rest; omega, fun r hr => by have := SM.out.vec r hr; have := IA.out.I r hr; exact ⟨by omega, by omega, by omega⟩⟩
    obtain ⟨b0, b1, b2⟩ := BX.out
    have b0 := gb_keeps (gb_trans G2.out G7.out) b0
    have b1 := gb_keeps (gb_trans G2.out G7.out) b1
    have b2 := gb_keeps (gb_trans G2.out G7.out) b2
    obtain ⟨d0, d1, d2⟩ := OX.out
    have d0 := gb_keeps G7.out d0
    have d1 := gb_keeps G7.out d1
    have d2 := gb_keeps G7.out d2
    go_wp2_with fail
    go_fit ck
    rintro e w8 ⟨rfl, g8⟩
    clear ck b0 b1 b2 d0 d1 d2
    go_wp2
    go_ret
    exact ⟨rfl, gb_trans GW7.out g8⟩
end Go.Proofs.YtdmdjmliggjbjaaGreat
