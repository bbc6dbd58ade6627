/- VecShapes: the walk. -/
import Derived.Test.YtbkjelbnbgcbbaaFVec
import Derived.Test.YtbkjelbnbgcbbaaFLendC
import Derived.Test.YtbkjelbnbgcbbaaFBackC
import Derived.Test.YtbkjelbnbgcbbaaBox
import Derived.Test.YtbkjelbnbgcbbaaRBox
import Derived.Test.YtbkjelbnbgcbbaaRSame
import Derived.Test.YtbkjelbnbgcbbaaAwake
namespace Go.Proofs.Ytbkjelbnbgcbbaa
open Go.RowKit Go.Sort

theorem own_keepI {W W' : World} {B : Nat} {v : Value} {l : List Int} (h : Own W B v l) (e : ∀ g, v.ownBlock = some g → W'.heap[g]? = W.heap[g]?) : Own W' B v l := by
  unfold Own at *
  refine ⟨h.1, ?_⟩
  rcases h.2 with h2 | ⟨g, cap, cur, rfl, hb, hh, r⟩
  · exact .inl h2
  · exact .inr ⟨g, cap, cur, rfl, hb, (e g rfl).trans hh, r⟩
theorem own_ltI {W : World} {B : Nat} {v : Value} {l : List Int} (h : Own W B v l) {g : Nat} (e : v.ownBlock = some g) : B ≤ g ∧ g < W.heap.size := World.ownsRow.lt h g e
/-- What was told of rows is still there when the rows have been given back. -/
theorem outR_mid {w w1 W W' : World} {B T : Nat} {r : Reg} {vl vh vi : Value} (h : OutR w w1 r vl vh vi) (hT : T ≤ w.heap.size) (g : Gb w1 W) (m : Mid B T W W') : RdR W' (rv r vl vh vi) r := by
  obtain ⟨_, o1, o2, o3, _⟩ := h
  have k : ∀ {v : Value} {l : List Int}, Own w1 w.heap.size v l → RdI W' v l := fun {v l} o => by
    have o' := o.gb g
    exact (own_keepI o' fun x e => m.block x (own_ltI o' e).2 (.inr (by have := (own_ltI o' e).1; omega))).rd
  exact ⟨vl, vh, vi, rfl, k o1, k o2, k o3⟩
theorem RegAt.mid {W W' : World} {B T b : Nat} {r : Reg} {vl vh vi : Value} (h : RegAt W b r vl vh vi) (m : Mid B T W W') (hb : T ≤ b) : RegAt W' b r vl vh vi := by
  have k : ∀ {o : Nat} {v : Value}, W.cell? ⟨b, o, none⟩ = some v → W'.cell? ⟨b, o, none⟩ = some v := fun {o v} hc =>
    (World.cell?_of_block (a := ⟨b, o, none⟩) (m.block b (World.block_lt_of_cell? W _ hc) (.inr hb))).trans hc
  exact ⟨k h.c0, k h.c1, k h.c2, k h.c3, k h.c4, k h.c5⟩
theorem box_len (rs : List Rw) (d : Int) (hn : rs.length ≤ 65536) : (boxR rs d).L.length ≤ 4611686018427387904 ∧ (boxR rs d).H.length ≤ 4611686018427387904 ∧ (boxR rs d).I.length ≤ 4611686018427387904 := by
  unfold boxR
  split
  · rename_i h
    obtain ⟨h1, h2, _⟩ := boxE_ok h
    refine ⟨by dsimp only [boxL]; rw [tab_len]; omega, by dsimp only [boxH]; rw [tab_len]; omega, by dsimp only; rw [srt_len]; unfold idsOf; rw [List.length_map]; omega⟩
  · exact ⟨by decide, by decide, by decide⟩
theorem ball_len (c : List Int) (rs : List Rw) (hn : rs.length ≤ 65536) (hc : c.length ≤ 65536) : (ballR c rs).L.length ≤ 4611686018427387904 ∧ (ballR c rs).H.length ≤ 4611686018427387904 ∧ (ballR c rs).I.length ≤ 4611686018427387904 := by
  unfold ballR
  split
  · exact ⟨by dsimp only; omega, by dsimp only; decide, by dsimp only; rw [srt_len]; unfold idsOf; rw [List.length_map]; omega⟩
  · exact ⟨by decide, by decide, by decide⟩
theorem RdR.form {w : World} {v : Value} {r : Reg} (h : RdR w v r) : ∃ a0 b0 a1 b1 a2 b2, v = .agg #[.int .i64 r.S, .slice a0 r.L.length b0, .slice a1 r.H.length b1, .int .u64 (hi r.R), .int .u64 (lo r.R), .slice a2 r.I.length b2] := by
  obtain ⟨vl, vh, vi, rfl, ⟨a0, b0, rfl, _⟩, ⟨a1, b1, rfl, _⟩, ⟨a2, b2, rfl, _⟩⟩ := h
  exact ⟨a0, b0, a1, b1, a2, b2, rfl⟩

set_option maxRecDepth 100000 in
set_option maxHeartbeats 1000000 in
theorem shapes_law {w : World} {v u : Value} {rs : List Rw} {c : List Int} (hv : RdW w v rs) (hu : RdI w u c) (hlen : rs.length ≤ 4611686018427387904) (hwf : ∀ i, i < rs.length → (Lit.int .i64 rs[i]!.1).wf = true) (hrow : ∀ i, i < rs.length → rs[i]!.2.length ≤ 4611686018427387904) (d : Int) :
    Calls Try.prog 3 #[v, .int .i64 d, u] w fun e w' => e = .returned (.bool true) ∧ Gb w w' := by
  have cv := vects_b hv 65536 hlen (by decide) hrow
  have V : Hid (RdW w v rs) := hv
  have U : Hid (RdI w u c) := hu
  have WF : Hid (∀ i, i < rs.length → (Lit.int .i64 rs[i]!.1).wf = true) := hwf
  obtain ⟨av, ca, rfl, _⟩ := hv
  obtain ⟨au, cu, rfl, _⟩ := hu
  obtain ⟨n, hn⟩ : ∃ n, n = rs.length := ⟨_, rfl⟩
  obtain ⟨m, hm⟩ : ∃ m, m = c.length := ⟨_, rfl⟩
  obtain ⟨m1, hm1⟩ : ∃ m1, m1 = n + 1 := ⟨_, rfl⟩
  have NN : Hid (n = rs.length ∧ m = c.length ∧ m1 = n + 1) := ⟨hn, hm, hm1⟩
  rw [← hn] at V cv ⊢
  rw [← hm] at U ⊢
  clear hwf hrow hlen hn hm hm1
  go_enter Try.func3, Try.ntmps3
  go_wp2_with fail
  refine cv.mono ?_
  rintro e w' ⟨⟨z, rfl, hz⟩, e2⟩
  subst e2
  have ZH : Hid (z ≤ ((65536 : Nat) : Int) → n + coords rs ≤ 65536) := hz
  clear cv hz
  by_cases h1 : 65536 < z
  · go_wp2
    go_ret
    exact ⟨rfl, Below.refl _ _⟩
  by_cases h2 : 2000 < (n : Int)
  · go_wp2
    go_ret
    exact ⟨rfl, Below.refl _ _⟩
  by_cases h3 : 65536 < (m : Int)
  · go_wp2
    go_ret
    exact ⟨rfl, Below.refl _ _⟩
  have B1 : Hid (rs.length ≤ 2000 ∧ c.length ≤ 65536) := by have := NN.out; exact ⟨by omega, by omega⟩
  have B3 : Hid (∀ i, i < rs.length → rs[i]!.2.length ≤ 65536) := fun i hi => by have := coords_row hi; have := ZH.out (by omega); omega
  have cl := lendrows_c V.out (by have := B1.out; omega) B3.out
  rw [← NN.out.1, ← NN.out.2.2] at cl
  go_wp2_with fail
  go_fit cl
  rintro e w1 ⟨G, rfl, h1⟩
  have L1 : Hid (LentR w w1 G rs) := h1
  have g1 : Hid (Gb w w1) := by obtain ⟨f, h⟩ := h1; exact h.gb
  clear cl h1
  obtain ⟨A, hA⟩ : ∃ A, A = boxR rs d := ⟨_, rfl⟩
  obtain ⟨E, hE⟩ : ∃ E, E = boxE rs d := ⟨_, rfl⟩
  obtain ⟨A', hA'⟩ : ∃ A', A' = ballR c rs := ⟨_, rfl⟩
  obtain ⟨E', hE'⟩ : ∃ E', E' = ballE c rs := ⟨_, rfl⟩
  have AH : Hid ((A.L.length ≤ 4611686018427387904 ∧ A.H.length ≤ 4611686018427387904 ∧ A.I.length ≤ 4611686018427387904) ∧ A'.L.length ≤ 4611686018427387904 ∧ A'.H.length ≤ 4611686018427387904 ∧ A'.I.length ≤ 4611686018427387904) := by
    rw [hA, hA']; exact ⟨box_len rs d (by have := B1.out; omega), ball_len c rs (by have := B1.out; omega) B1.out.2⟩
  have cb := box_c L1.out.rd d (by have := B1.out; omega) WF.out
  have cc := fun W (g : Gb w1 W) => ball_c (U.out.gb (gb_trans g1.out g)) (L1.out.gr g).rd (by have := B1.out; omega) WF.out
  have rb := fun W (g : Gb w W) => rbox_c (V.out.gb g) d B1.out.1
  have rc' := fun W (g : Gb w W) => rball_c (U.out.gb g) (V.out.gb g) B1.out.1
  rw [← hA, ← hE, ← NN.out.1, ← NN.out.2.2] at cb
  simp only [← hA', ← hE', ← NN.out.1, ← NN.out.2.2] at cc
  simp only [← hA, ← hE] at rb
  simp only [← hA', ← hE'] at rc'
  clear hA hE hA' hE'
  go_wp2_with fail
  go_fit cb
  rintro e w2 ⟨vl, vh, vi, rfl, o2⟩
  have O2 : Hid (OutR w1 w2 A vl vh vi) := o2
  obtain ⟨a1, b1, e1, _⟩ := o2.2.1.rd
  obtain ⟨a2, b2, e2, _⟩ := o2.2.2.1.rd
  obtain ⟨a3, b3, e3, _⟩ := o2.2.2.2.1.rd
  subst e1; subst e2; subst e3
  obtain ⟨W2, hW2⟩ : ∃ W2, W2 = w2.alloc (.cells #[.int .i64 A.S, .slice a1 A.L.length b1, .slice a2 A.H.length b2, .int .u64 (hi A.R), .int .u64 (lo A.R), .slice a3 A.I.length b3] 31) := ⟨_, rfl⟩
  have G2 : Hid (Gb w2 W2) := by unfold Hid; rw [hW2]; exact gb_alloc (Below.refl _ _) _
  have R2 : Hid (RegAt W2 w2.heap.size A (.slice a1 A.L.length b1) (.slice a2 A.H.length b2) (.slice a3 A.I.length b3)) := by unfold Hid; rw [hW2]; exact RegAt.new w2 A _ _ _
  have ccW := cc W2 (gb_trans o2.1 G2.out)
  clear cb cc o2
  go_wp2_with fail
  rw [← hW2]
  go_fit ccW
  rintro e w3 ⟨ul, uh, ui, rfl, o3⟩
  have O3 : Hid (OutR W2 w3 A' ul uh ui) := o3
  obtain ⟨a4, b4, e4, _⟩ := o3.2.1.rd
  obtain ⟨a5, b5, e5, _⟩ := o3.2.2.1.rd
  obtain ⟨a6, b6, e6, _⟩ := o3.2.2.2.1.rd
  subst e4; subst e5; subst e6
  obtain ⟨W3, hW3⟩ : ∃ W3, W3 = w3.alloc (.cells #[.int .i64 A'.S, .slice a4 A'.L.length b4, .slice a5 A'.H.length b5, .int .u64 (hi A'.R), .int .u64 (lo A'.R), .slice a6 A'.I.length b6] 31) := ⟨_, rfl⟩
  have G3 : Hid (Gb w3 W3) := by unfold Hid; rw [hW3]; exact gb_alloc (Below.refl _ _) _
  have R3 : Hid (RegAt W3 w3.heap.size A' (.slice a4 A'.L.length b4) (.slice a5 A'.H.length b5) (.slice a6 A'.I.length b6)) := by unfold Hid; rw [hW3]; exact RegAt.new w3 A' _ _ _
  have g13 : Hid (Gb w1 W3) := gb_trans (gb_trans O2.out.1 G2.out) (gb_trans O3.out.1 G3.out)
  have GW3 : Hid (Gb w W3) := gb_trans g1.out g13.out
  have R2' : Hid (RegAt W3 w2.heap.size A (.slice a1 A.L.length b1) (.slice a2 A.H.length b2) (.slice a3 A.I.length b3)) := R2.out.gb (gb_trans O3.out.1 G3.out)
  obtain ⟨f, gs, T1⟩ := L1.out.lt
  have T3 : LT w.heap.size w1.heap.size W3 G rs f gs := T1.keep fun j h1 h2 => g13.out.block j h2
  have cr := backrows_c T3 GW3.out (Nat.le_refl _) V.out (by have := B1.out; omega) B3.out
  rw [← NN.out.1, ← NN.out.2.2] at cr
  clear ccW hW2 o3 T1 T3
  go_wp2_with fail
  rw [← hW3]
  clear hW3
  go_fit cr
  rintro e w4 ⟨rfl, m4'⟩
  have m4 : Hid (Mid w.heap.size w1.heap.size W3 w4) := m4'
  have G4 : Hid (Gb w w4) := m4'.gb GW3.out (Nat.le_refl _)
  have X1 : Hid (RdR w4 (.agg #[.int .i64 A.S, .slice a1 A.L.length b1, .slice a2 A.H.length b2, .int .u64 (hi A.R), .int .u64 (lo A.R), .slice a3 A.I.length b3]) A) := outR_mid O2.out (Nat.le_refl _) (gb_trans G2.out (gb_trans O3.out.1 G3.out)) m4'
  have X2 : Hid (RdR w4 (.agg #[.int .i64 A'.S, .slice a4 A'.L.length b4, .slice a5 A'.H.length b5, .int .u64 (hi A'.R), .int .u64 (lo A'.R), .slice a6 A'.I.length b6]) A') := outR_mid O3.out (by have := g1.out.size; have := O2.out.1.size; have := G2.out.size; omega) G3.out m4'
  have s1 : w1.heap.size ≤ w2.heap.size := O2.out.1.size
  have s2 : w2.heap.size ≤ w3.heap.size := by have := G2.out.size; have := O3.out.1.size; omega
  have RR2 : Hid (RegAt w4 w2.heap.size A (.slice a1 A.L.length b1) (.slice a2 A.H.length b2) (.slice a3 A.I.length b3)) := R2'.out.mid m4' s1
  have RR3 : Hid (RegAt w4 w3.heap.size A' (.slice a4 A'.L.length b4) (.slice a5 A'.H.length b5) (.slice a6 A'.I.length b6)) := R3.out.mid m4' (by omega)
  have rbW := rb w4 G4.out
  clear cr m4' m4 O2 O3 L1 g13 GW3 G2 G3 R2 R2' R3 rb s1 s2
  go_wp2_with fail
  go_fit rbW
  rintro e w5 ⟨x5, rfl, rd5, g5⟩
  obtain ⟨d0, d1, d2, d3, d4, d5, ex⟩ := rd5.form
  subst ex
  obtain ⟨W5, hW5⟩ : ∃ W5, W5 = w5.alloc (.cells #[.int .i64 A.S, .slice d0 A.L.length d1, .slice d2 A.H.length d3, .int .u64 (hi A.R), .int .u64 (lo A.R), .slice d4 A.I.length d5] 31) := ⟨_, rfl⟩
  have G5 : Hid (Gb w4 W5) := by unfold Hid; rw [hW5]; exact gb_alloc g5 _
  have R5 : Hid (RegAt W5 w5.heap.size A (.slice d0 A.L.length d1) (.slice d2 A.H.length d3) (.slice d4 A.I.length d5)) := by unfold Hid; rw [hW5]; exact RegAt.new w5 A _ _ _
  have X3 : Hid (RdR W5 (.agg #[.int .i64 A.S, .slice d0 A.L.length d1, .slice d2 A.H.length d3, .int .u64 (hi A.R), .int .u64 (lo A.R), .slice d4 A.I.length d5]) A) := rd5.gb (by rw [hW5]; exact gb_alloc (Below.refl _ _) _)
  have rcW := rc' W5 (gb_trans G4.out G5.out)
  clear rbW rd5 g5 rc'
  go_wp2_with fail
  rw [← hW5]
  clear hW5
  go_fit rcW
  rintro e w6 ⟨x6, rfl, rd6, g6⟩
  obtain ⟨f0, f1, f2, f3, f4, f5, ex⟩ := rd6.form
  subst ex
  obtain ⟨W6, hW6⟩ : ∃ W6, W6 = w6.alloc (.cells #[.int .i64 A'.S, .slice f0 A'.L.length f1, .slice f2 A'.H.length f3, .int .u64 (hi A'.R), .int .u64 (lo A'.R), .slice f4 A'.I.length f5] 31) := ⟨_, rfl⟩
  have GV : Gb w6 W6 := by rw [hW6]; exact gb_alloc (Below.refl _ _) _
  have G6 : Hid (Gb W5 W6) := gb_trans g6 GV
  have R6 : Hid (RegAt W6 w6.heap.size A' (.slice f0 A'.L.length f1) (.slice f2 A'.H.length f3) (.slice f4 A'.I.length f5)) := by unfold Hid; rw [hW6]; exact RegAt.new w6 A' _ _ _
  have X4 : Hid (RdR W6 (.agg #[.int .i64 A'.S, .slice f0 A'.L.length f1, .slice f2 A'.H.length f3, .int .u64 (hi A'.R), .int .u64 (lo A'.R), .slice f4 A'.I.length f5]) A') := rd6.gb GV
  have aw := awake_any W6
  clear rcW rd6 g6 GV
  go_wp2_with fail
  rw [← hW6]
  clear hW6
  go_fit aw
  rintro e w7 ⟨rfl, g7⟩
  have G7 : Hid (Gb W6 w7) := g7
  have G57 : Hid (Gb W5 w7) := gb_trans G6.out g7
  have G47 : Hid (Gb w4 w7) := gb_trans G5.out G57.out
  have s1 := rsame_c (X1.out.gb G47.out) (X3.out.gb G57.out) AH.out.1.1 AH.out.1.2.1 AH.out.1.2.2
  obtain ⟨p0, p1, p2, p3, p4, p5⟩ := RR2.out.gb G47.out
  obtain ⟨q0, q1, q2, q3, q4, q5⟩ := R5.out.gb G57.out
  clear aw g7
  go_wp2_with fail
  go_fit s1
  rintro e w8 ⟨rfl, g8⟩
  have G8 : Hid (Gb w7 w8) := g8.gb
  have G68 : Hid (Gb W6 w8) := gb_trans G7.out G8.out
  have G48 : Hid (Gb w4 w8) := gb_trans G47.out G8.out
  have s2 := rsame_c (X2.out.gb G48.out) (X4.out.gb G68.out) AH.out.2.1 AH.out.2.2.1 AH.out.2.2.2
  clear p0 p1 p2 p3 p4 p5 q0 q1 q2 q3 q4 q5 s1 g8
  obtain ⟨p0, p1, p2, p3, p4, p5⟩ := RR3.out.gb G48.out
  obtain ⟨q0, q1, q2, q3, q4, q5⟩ := R6.out.gb G68.out
  go_wp2_with fail
  go_fit s2
  rintro e w9 ⟨rfl, g9⟩
  have GE : Hid (Gb w w9) := gb_trans G4.out (gb_trans G48.out g9.gb)
  clear p0 p1 p2 p3 p4 p5 q0 q1 q2 q3 q4 q5 s2 g9
  go_wp2
  go_ret
  exact ⟨by simp, GE.out⟩
end Go.Proofs.Ytbkjelbnbgcbbaa
