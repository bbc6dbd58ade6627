/- FlatSearch: the walk. -/
import Derived.Test.YteaeaoekaoedoaaGreatG49
import Derived.Test.YteaeaoekaoedoaaGreatG34
import Derived.Test.YteaeaoekaoedoaaGreatFAwake
namespace Go.Proofs.YteaeaoekaoedoaaGreat
open Go.RowKit Go.Sort

set_option maxRecDepth 100000 in
set_option maxHeartbeats 1000000 in
theorem search_law_no {w : World} {v u : Value} {rs : List Rw} {q : List Int} (hv : RdW w v rs) (hu : RdI w u q) (hwf : Wf rs) (k b : Int) (hz : searchE rs q k b ≠ 0) :
    Calls Tryz.prog 5 #[v, u, .int .i64 k, .int .i64 b] w fun e w' => e = .returned (.bool true) ∧ Gb w w' := by
  have cbig := big_c hv hu (by have := hwf.1; omega)
  have V : Hid (RdW w v rs) := hv
  have U : Hid (RdI w u q) := hu
  have WH : Hid (Wf rs) := hwf
  have cs := search_no hv hu hwf k b hz
  have SE := srch_same rs q k b
  obtain ⟨av, cv, rfl, _⟩ := hv
  obtain ⟨au, cu, rfl, _⟩ := hu
  obtain ⟨n, hn⟩ : ∃ n, n = rs.length := ⟨_, rfl⟩
  obtain ⟨m, hm⟩ : ∃ m, m = q.length := ⟨_, rfl⟩
  obtain ⟨z, hZ⟩ : ∃ z, z = searchE rs q k b := ⟨_, rfl⟩
  have NN : Hid (n = rs.length ∧ m = q.length ∧ z = searchE rs q k b) := ⟨hn, hm, hZ⟩
  rw [← hZ] at cs hz SE
  rw [← hn] at V cbig cs ⊢
  rw [← hm] at U cbig cs ⊢
  clear hwf hn hm hZ
  have hz1 : (z == 0) = false := by rw [beq_eq_false_iff_ne]; exact hz
  have SH : Hid (z = if askE rs q = 0 then srchE q (q.length : Int) k b else askE rs q) := SE
  clear SE
  go_enter Tryz.func5, Tryz.ntmps5
  go_wp2_with fail
  go_fit cbig
  rintro e w' ⟨b', rfl, hb, e2⟩
  subst e2
  clear cbig
  cases b' with
  | true =>
    go_wp2
    go_ret
    exact ⟨rfl, Below.refl _ _⟩
  | false =>
    clear hb
    go_wp2_with fail
    go_fit cs
    rintro e w1 ⟨rfl, g1⟩
    obtain ⟨W1, hW1⟩ : ∃ W1, W1 = w1.alloc (.cells #[.slice none 0 0, .slice none 0 0, .slice none 0 0] 44) := ⟨_, rfl⟩
    have G1 : Hid (Gb w W1) := by unfold Hid; rw [hW1]; exact gb_alloc g1 _
    have BX : Hid (W1.cell? ⟨w1.heap.size, 0, none⟩ = some (.slice none 0 0) ∧ W1.cell? ⟨w1.heap.size, 1, none⟩ = some (.slice none 0 0) ∧ W1.cell? ⟨w1.heap.size, 2, none⟩ = some (.slice none 0 0)) := by
      unfold Hid; rw [hW1]; exact ⟨by simp [go_sem], by simp [go_sem], by simp [go_sem]⟩
    have ca := rask_c (V.out.gb G1.out) (U.out.gb G1.out) WH.out.1
    clear cs g1
    by_cases ha : askE rs q = 0
    · rw [ha] at ca
      go_wp2_with fail
      rw [← hW1]
      clear hW1
      go_fit ca
      rintro e w2 ⟨rfl, g2⟩
      have G2 : Hid (Gb W1 w2) := g2.gb
      have cd := rsearched_c (U.out.gb (gb_trans G1.out G2.out)) (q.length : Int) k b
      rw [show srchE q (q.length : Int) k b = z by rw [SH.out, if_pos ha], ← NN.out.2.1] at cd
      clear ca g2 ha
      go_wp2_with fail
      go_fit cd
      rintro e w3 ⟨rfl, e3⟩
      subst e3
      clear cd
      have aw := awake_c w2
      go_wp2_with fail
      go_fit aw
      rintro e w4 ⟨rfl, g4⟩
      have G4 : Hid (Gb W1 w4) := gb_trans G2.out g4
      have ck := kanswer_c (rda_nil w4) (rda_nil w4) few_nil
      obtain ⟨x0, x1, x2⟩ := BX.out
      have x0 := gb_keeps G4.out x0
      have x1 := gb_keeps G4.out x1
      have x2 := gb_keeps G4.out x2
      clear aw g4
      go_wp2_with fail
      go_fit ck
      rintro e w5 ⟨rfl, g5⟩
      go_wp2
      go_ret
      exact ⟨rfl, gb_trans G1.out (gb_trans G4.out g5)⟩
    · have ez : z = askE rs q := by rw [SH.out, if_neg ha]
      rw [← ez] at ca
      clear ha ez
      go_wp2_with fail
      rw [← hW1]
      clear hW1
      go_fit ca
      rintro e w2 ⟨rfl, g2⟩
      have G2 : Hid (Gb W1 w2) := g2.gb
      clear ca g2
      have aw := awake_c w2
      go_wp2_with fail
      go_fit aw
      rintro e w4 ⟨rfl, g4⟩
      have G4 : Hid (Gb W1 w4) := gb_trans G2.out g4
      have ck := kanswer_c (rda_nil w4) (rda_nil w4) few_nil
      obtain ⟨x0, x1, x2⟩ := BX.out
      have x0 := gb_keeps G4.out x0
      have x1 := gb_keeps G4.out x1
      have x2 := gb_keeps G4.out x2
      clear aw g4
      go_wp2_with fail
      go_fit ck
      rintro e w5 ⟨rfl, g5⟩
      go_wp2
      go_ret
      exact ⟨rfl, gb_trans G1.out (gb_trans G4.out g5)⟩

set_option maxRecDepth 100000 in
set_option maxHeartbeats 1000000 in
theorem search_law_yes {w : World} {a : Option Addr} {n cap : Nat} {u : Value} {rs : List Rw} {q : List Int} (hv : RdW w (.slice a n cap) rs) (hcap : n ≤ cap) (hu : RdI w u q) (hwf : Wf rs) (k b : Nat) (hz : searchE rs q (k : Int) (b : Int) = 0) :
    Calls Tryz.prog 5 #[.slice a n cap, u, .int .i64 (k : Int), .int .i64 (b : Int)] w fun e w' => e = .returned (.bool true) ∧ Gb w w' := by
  have cbig := big_c hv hu (by have := hwf.1; omega)
  have V : Hid (RdW w (.slice a n cap) rs) := hv
  have U : Hid (RdI w u q) := hu
  have WH : Hid (Wf rs) := hwf
  obtain ⟨hz1, _, hb⟩ := searchE_zero.1 hz
  obtain ⟨hask, hk1, hk2⟩ := topE_zero.1 hz1
  have AK : Hid (askE rs q = 0 ∧ k ≤ 64 ∧ b ≤ 1000000 ∧ topE rs q (k : Int) = 0 ∧ n ≤ cap) := ⟨hask, by omega, by omega, hz1, hcap⟩
  have SE : Hid (srchE q (q.length : Int) (k : Int) (b : Int) = 0) := by
    have := srch_same rs q (k : Int) (b : Int)
    rw [hz, if_pos hask] at this
    exact this.symm
  have FEW : Hid (rs.length ≤ 512) := (askE_zero.1 hask).2.few
  have hnr : n = rs.length := by obtain ⟨_, _, e, _⟩ := hv; injection e
  obtain ⟨au, cu, rfl, _⟩ := hu
  obtain ⟨m, hm⟩ : ∃ m, m = q.length := ⟨_, rfl⟩
  have NN : Hid (n = rs.length ∧ m = q.length) := ⟨hnr, hm⟩
  have cs := fun W (g : Gb w W) => search_ok (V.out.gb g) AK.out.2.2.2.2 (U.out.gb g) WH.out (k : Int) AK.out.2.2.2.1 b AK.out.2.2.1
  rw [← hm] at U cbig ⊢
  simp only [← hm] at cs
  obtain ⟨c, hc⟩ : ∃ c, c = min b n := ⟨_, rfl⟩
  simp only [← hc, Int.toNat_natCast] at cs
  have CC : Hid (c = min b n) := hc
  clear hwf hm hz hz1 hb hask hk1 hk2 hv hcap hc hnr
  have SO : Hid (SoundP rs q k (flatAns rs q k c) (srtR (rs.take c))) := flat_sound AK.out.1 k c
  have SL : Hid ((flatAns rs q k c).seen.length = c ∧ (c = b ∨ c = rs.length) ∧ c ≤ b) := by
    have h1 := CC.out
    have h2 := NN.out
    refine ⟨?_, by omega, by omega⟩
    unfold flatAns
    dsimp only
    rw [srt_len]
    simp [idsOf]
    omega
  go_enter Tryz.func5, Tryz.ntmps5
  go_wp2_with fail
  go_fit cbig
  rintro e w' ⟨b', rfl, hb, e2⟩
  subst e2
  clear cbig
  cases b' with
  | true =>
    go_wp2
    go_ret
    exact ⟨rfl, Below.refl _ _⟩
  | false =>
    clear hb
    have cs1 := cs w (Below.refl _ _)
    go_wp2_with fail
    go_fit cs1
    rintro e w1 ⟨vh, vs, vr, rfl, A1'⟩
    have A1 : Hid (AnsAt w w1 vh vs vr rs q k c) := A1'
    have g1 : Hid (Gb w w1) := by obtain ⟨_, _, _, _, _, g, _⟩ := A1'; exact g
    have R1 : Hid (RdA w1 vh vs vr (flatAns rs q k c)) := flat_rd A1'
    have O1 : Hid (OwnA w1 w.heap.size w1.heap.size vh vs vr) := flat_own A1' FEW.out
    clear cs1 A1'
    obtain ⟨a1, n1, c1, e1, _⟩ := O1.out.hits
    obtain ⟨a2, n2, c2, e2, _⟩ := O1.out.seen
    obtain ⟨a3, n3, c3, e3, _⟩ := O1.out.rest
    subst e1; subst e2; subst e3
    obtain ⟨W1, hW1⟩ : ∃ W1, W1 = w1.alloc (.cells #[.slice a1 n1 c1, .slice a2 n2 c2, .slice a3 n3 c3] 44) := ⟨_, rfl⟩
    have G1 : Hid (Gb w1 W1) := by unfold Hid; rw [hW1]; exact gb_alloc (Below.refl _ _) _
    have BX : Hid (W1.cell? ⟨w1.heap.size, 0, none⟩ = some (.slice a1 n1 c1) ∧ W1.cell? ⟨w1.heap.size, 1, none⟩ = some (.slice a2 n2 c2) ∧ W1.cell? ⟨w1.heap.size, 2, none⟩ = some (.slice a3 n3 c3)) := by
      unfold Hid; rw [hW1]; exact ⟨by simp [go_sem], by simp [go_sem], by simp [go_sem]⟩
    have GW1 : Hid (Gb w W1) := gb_trans g1.out G1.out
    have ca := rask_c (V.out.gb GW1.out) (U.out.gb GW1.out) WH.out.1
    rw [AK.out.1] at ca
    go_wp2_with fail
    rw [← hW1]
    clear hW1
    go_fit ca
    rintro e w2 ⟨rfl, g2⟩
    have G2 : Hid (Gb W1 w2) := g2.gb
    have GW2 : Hid (Gb w w2) := gb_trans GW1.out G2.out
    have cd := rsearched_c (U.out.gb GW2.out) (q.length : Int) (k : Int) (b : Int)
    rw [SE.out, ← NN.out.2] at cd
    clear ca g2
    go_wp2_with fail
    go_fit cd
    rintro e w3 ⟨rfl, e3⟩
    subst e3
    clear cd
    have co := robeys_c (V.out.gb GW2.out) (U.out.gb GW2.out) (R1.out.gb (gb_trans G1.out G2.out)) AK.out.1 AK.out.2.1 SO.out (b := b) (by have := SL.out; omega) (by have := SL.out; omega)
    obtain ⟨x0, x1, x2⟩ := BX.out
    have x0 := gb_keeps G2.out x0
    have x1 := gb_keeps G2.out x1
    have x2 := gb_keeps G2.out x2
    go_wp2_with fail
    go_fit co
    rintro e w4 ⟨rfl, g4⟩
    have G4 : Hid (Gb W1 w4) := gb_trans G2.out g4
    have GW4 : Hid (Gb w w4) := gb_trans GW1.out G4.out
    have cs2 := cs w4 GW4.out
    clear co g4 x0 x1 x2 cs
    go_wp2_with fail
    go_fit cs2
    rintro e w5 ⟨uh, us, ur, rfl, A2'⟩
    have A2 : Hid (AnsAt w4 w5 uh us ur rs q k c) := A2'
    have g5 : Hid (Gb w4 w5) := by obtain ⟨_, _, _, _, _, g, _⟩ := A2'; exact g
    have R2 : Hid (RdA w5 uh us ur (flatAns rs q k c)) := flat_rd A2'
    have O2 : Hid (OwnA w5 w4.heap.size w5.heap.size uh us ur) := flat_own A2' FEW.out
    clear cs2 A2'
    obtain ⟨a4, n4, c4, e4, _⟩ := O2.out.hits
    obtain ⟨a5, n5, c5, e5, _⟩ := O2.out.seen
    obtain ⟨a6, n6, c6, e6, _⟩ := O2.out.rest
    subst e4; subst e5; subst e6
    obtain ⟨W5, hW5⟩ : ∃ W5, W5 = w5.alloc (.cells #[.slice a4 n4 c4, .slice a5 n5 c5, .slice a6 n6 c6] 44) := ⟨_, rfl⟩
    have G5 : Hid (Gb w5 W5) := by unfold Hid; rw [hW5]; exact gb_alloc (Below.refl _ _) _
    have BY : Hid (W5.cell? ⟨w5.heap.size, 0, none⟩ = some (.slice a4 n4 c4) ∧ W5.cell? ⟨w5.heap.size, 1, none⟩ = some (.slice a5 n5 c5) ∧ W5.cell? ⟨w5.heap.size, 2, none⟩ = some (.slice a6 n6 c6)) := by
      unfold Hid; rw [hW5]; exact ⟨by simp [go_sem], by simp [go_sem], by simp [go_sem]⟩
    have G15 : Hid (Gb W1 W5) := gb_trans G4.out (gb_trans g5.out G5.out)
    have ck := kanswer_c (R1.out.gb (gb_trans G1.out G15.out)) (R2.out.gb G5.out) (flat_few q k c FEW.out)
    obtain ⟨x0, x1, x2⟩ := BX.out
    have x0 := gb_keeps G15.out x0
    have x1 := gb_keeps G15.out x1
    have x2 := gb_keeps G15.out x2
    obtain ⟨y0, y1, y2⟩ := BY.out
    rw [hW5] at x0 x1 x2 y0 y1 y2
    go_wp2_with fail
    rw [← hW5]
    clear x0 x1 x2 y0 y1 y2 hW5
    go_fit ck
    rintro e w6 ⟨rfl, g6⟩
    have G6 : Hid (Gb W5 w6) := g6
    have G16 : Hid (Gb W1 w6) := gb_trans G15.out g6
    have g16 : Hid (Gb w1 w6) := gb_trans G1.out G16.out
    have OS : OwnA w6 w.heap.size w1.heap.size (.slice a1 n1 c1) (.slice a2 n2 c2) (.slice a3 n3 c3) := O1.out.gb g16.out
    have cp := spoil_c OS
    clear ck g6 OS
    obtain ⟨x0, x1, x2⟩ := BX.out
    have x0 := gb_keeps G16.out x0
    have x1 := gb_keeps G16.out x1
    have x2 := gb_keeps G16.out x2
    go_wp2_with fail
    go_fit cp
    rintro e w7 ⟨rfl, m7⟩
    have M7 : Hid (Mid w.heap.size w1.heap.size w6 w7) := m7
    have GW7 : Hid (Gb w w7) := m7.gb (gb_trans GW1.out G16.out) (Nat.le_refl _)
    have s14 : w1.heap.size ≤ w4.heap.size := by have := G1.out.size; have := G4.out.size; omega
    have R7 : Hid (RdA w7 (.slice a4 n4 c4) (.slice a5 n5 c5) (.slice a6 n6 c6) (flatAns rs q k c)) := RdA.mid A2.out s14 (gb_trans G5.out G6.out) m7
    have BZ : Hid (w7.cell? ⟨w5.heap.size, 0, none⟩ = some (.slice a4 n4 c4) ∧ w7.cell? ⟨w5.heap.size, 1, none⟩ = some (.slice a5 n5 c5) ∧ w7.cell? ⟨w5.heap.size, 2, none⟩ = some (.slice a6 n6 c6)) := by
      have hs : w1.heap.size ≤ w5.heap.size := by have := g5.out.size; omega
      have kp : ∀ {o : Nat} {v : Value}, W5.cell? ⟨w5.heap.size, o, none⟩ = some v → w7.cell? ⟨w5.heap.size, o, none⟩ = some v := fun {o v} hc => by
        have h6 := gb_keeps G6.out hc
        exact (World.cell?_of_block (a := ⟨w5.heap.size, o, none⟩) (m7.block _ (World.block_lt_of_cell? w6 _ h6) (.inr hs))).trans h6
      obtain ⟨y0, y1, y2⟩ := BY.out
      exact ⟨kp y0, kp y1, kp y2⟩
    have aw := awake_c w7
    clear cp m7 x0 x1 x2
    go_wp2_with fail
    go_fit aw
    rintro e w8 ⟨rfl, g8⟩
    have GW8 : Hid (Gb w w8) := gb_trans GW7.out g8
    have co := robeys_c (V.out.gb GW8.out) (U.out.gb GW8.out) (R7.out.gb g8) AK.out.1 AK.out.2.1 SO.out (b := b) (by have := SL.out; omega) (by have := SL.out; omega)
    obtain ⟨y0, y1, y2⟩ := BZ.out
    have y0 := gb_keeps g8 y0
    have y1 := gb_keeps g8 y1
    have y2 := gb_keeps g8 y2
    clear aw g8
    go_wp2_with fail
    go_fit co
    rintro e w9 ⟨rfl, g9⟩
    have GE : Hid (Gb w w9) := gb_trans GW8.out g9
    clear co g9 y0 y1 y2
    go_wp2
    go_ret
    exact ⟨rfl, GE.out⟩
end Go.Proofs.YteaeaoekaoedoaaGreat
