/- PqCodes: the walk. -/
import Derived.Test.YtblfmhdcgmkpgaaPc47
namespace Go.Proofs.Ytblfmhdcgmkpgaa
open Go.RowKit Go.Maps

set_option maxHeartbeats 1000000 in
set_option maxRecDepth 100000 in
theorem codes_long {w : World} {lv vv cv : Value} {l : Vs} {v code : List Int} (hl : RdVJ w lv l) (d m k r x : Int) (hq : RdJ w vv v) (hc : RdI w cv code) (hlong : 32768 < v.length ∨ 32768 < code.length) :
    Calls Try.prog 4 #[lv, .agg #[.int .i64 d, .int .i64 m, .int .i64 k, .int .i64 r, .int .u64 x], vv, cv] w fun e w' => e = .returned (.bool true) ∧ Gb w w' := by
  have GH : Gb w (w.alloc (.cells #[.int .i64 d, .int .i64 m, .int .i64 k, .int .i64 r, .int .u64 x] 25)) := gb_alloc (Below.refl _ _) _
  have cb := big_c (hl.gb GH).rd
  have G : Hid (Gb w (w.alloc (.cells #[.int .i64 d, .int .i64 m, .int .i64 k, .int .i64 r, .int .u64 x] 25))) := GH
  obtain ⟨al, cl, rfl, _⟩ := hl
  obtain ⟨⟨aq, cq, rfl, _⟩, _⟩ := hq
  obtain ⟨ac, cc, rfl, _⟩ := hc
  generalize l.length = n at *
  generalize v.length = nq at *
  generalize code.length = nc at *
  clear GH
  by_cases h1 : 32768 < nq
  · clear hlong
    go_enter Try.func4, Try.ntmps4
    go_wp2_with fail
    go_fit cb
    rintro e w1 ⟨⟨b, rfl⟩, e1⟩
    subst e1
    clear cb
    cases b with
    | true =>
      go_wp2
      go_ret
      exact ⟨rfl, G.out⟩
    | false =>
      go_wp2
      go_ret
      exact ⟨rfl, G.out⟩
  · have h2 : 32768 < nc := by omega
    clear hlong
    go_enter Try.func4, Try.ntmps4
    go_wp2_with fail
    go_fit cb
    rintro e w1 ⟨⟨b, rfl⟩, e1⟩
    subst e1
    clear cb
    cases b with
    | true =>
      go_wp2
      go_ret
      exact ⟨rfl, G.out⟩
    | false =>
      go_wp2
      go_ret
      exact ⟨rfl, G.out⟩
set_option maxHeartbeats 1000000 in
set_option maxRecDepth 100000 in
theorem codes_no {w : World} {lv vv cv : Value} {l : Vs} {v code : List Int} (hl : RdVJ w lv l) (d m k r x : Int) (hq : RdJ w vv v) (hc : RdI w cv code) (h1 : v.length ≤ 32768) (h2 : code.length ≤ 32768) (hz : pqE l d m k r ≠ 0) :
    Calls Try.prog 4 #[lv, .agg #[.int .i64 d, .int .i64 m, .int .i64 k, .int .i64 r, .int .u64 x], vv, cv] w fun e w' => e = .returned (.bool true) ∧ Gb w w' := by
  have GH : Gb w (w.alloc (.cells #[.int .i64 d, .int .i64 m, .int .i64 k, .int .i64 r, .int .u64 x] 25)) := gb_alloc (Below.refl _ _) _
  have cb := big_c (hl.gb GH).rd
  have ct := lawtrain_no (hl.gb GH).rd d m k r x hz
  have hz' : (pqE l d m k r == 0) = false := by rw [beq_eq_false_iff_ne]; exact hz
  have G : Hid (Gb w (w.alloc (.cells #[.int .i64 d, .int .i64 m, .int .i64 k, .int .i64 r, .int .u64 x] 25))) := GH
  obtain ⟨al, cl, rfl, _⟩ := hl
  obtain ⟨⟨aq, cq, rfl, _⟩, _⟩ := hq
  obtain ⟨ac, cc, rfl, _⟩ := hc
  generalize pqE l d m k r = z at *
  generalize l.length = n at *
  generalize v.length = nq at *
  generalize code.length = nc at *
  clear GH
  go_enter Try.func4, Try.ntmps4
  go_wp2_with fail
  go_fit cb
  rintro e w1 ⟨⟨b, rfl⟩, e1⟩
  subst e1
  clear cb
  cases b with
  | true =>
    go_wp2
    go_ret
    exact ⟨rfl, G.out⟩
  | false =>
    go_wp2_with fail
    go_fit ct
    rintro e w2 ⟨rfl, g2⟩
    have G2 : Hid (Gb w w2) := gb_trans G.out g2
    clear ct g2
    go_wp2_with (go_at_call 12; refine (awake_c _).mono ?_; rintro e w3 ⟨rfl, g3⟩)
    go_ret
    exact ⟨rfl, gb_trans G2.out g3⟩

set_option maxHeartbeats 4000000 in
set_option maxRecDepth 100000 in
theorem codes_ok {w : World} {lv vv cv : Value} {l : Vs} {v code : List Int} (hl : RdVJ w lv l) {m s k r : Nat} (T : TrOk l m s k r) (x : Int) (hx : Rn.U x) (hq : RdJ w vv v) (hc : RdI w cv code) (h1 : v.length ≤ 32768) (h2 : code.length ≤ 32768) :
    Calls Try.prog 4 #[lv, .agg #[.int .i64 ((m * s : Nat) : Int), .int .i64 (m : Int), .int .i64 (k : Int), .int .i64 (r : Int), .int .u64 x], vv, cv] w fun e w' => e = .returned (.bool true) ∧ Gb w w' := by
  have HX : Hid (RdVJ w lv l ∧ TrOk l m s k r ∧ RdJ w vv v ∧ RdI w cv code) := ⟨hl, T, hq, hc⟩
  have BK : Hid (Bks (booksV l m k r x) m s k) := T.bks x
  have DM : Hid ((decide (0 < (1 : Int))) = true) := by unfold Hid; decide
  obtain ⟨D, hD⟩ : ∃ D, D = m * s := ⟨_, rfl⟩
  have DD : Hid (D = m * s) := hD
  have GH : Gb w (w.alloc (.cells #[.int .i64 ((m * s : Nat) : Int), .int .i64 (m : Int), .int .i64 (k : Int), .int .i64 (r : Int), .int .u64 x] 25)) := gb_alloc (Below.refl _ _) _
  have cb := big_c (hl.gb GH).rd
  have CR : Hid (∀ W, Gb w W → Calls Try.prog 13 #[lv, .int .i64 ((m * s : Nat) : Int), .int .i64 (m : Int), .int .i64 (k : Int), .int .i64 (r : Int), .int .u64 x] W fun e w' => ∃ p, e = .returned (.pointer (some ⟨p, 0, none⟩)) ∧ MCod w' p (m * s) m (booksV l m k r x) ∧ Gb W w') := fun W g => rtrainq_ok (hl.gb g) T x hx
  have ct := lawtrain_ok (hl.gb GH) T x hx
  have G : Hid (Gb w (w.alloc (.cells #[.int .i64 ((m * s : Nat) : Int), .int .i64 (m : Int), .int .i64 (k : Int), .int .i64 (r : Int), .int .u64 x] 25))) := GH
  obtain ⟨al, cl, rfl, _⟩ := hl
  obtain ⟨⟨aq, cq, rfl, _⟩, _⟩ := hq
  obtain ⟨ac, cc, rfl, _⟩ := hc
  obtain ⟨nl, hnl⟩ : ∃ n, n = l.length := ⟨_, rfl⟩
  obtain ⟨nq, hnq⟩ : ∃ n, n = v.length := ⟨_, rfl⟩
  obtain ⟨nc, hnc⟩ : ∃ n, n = code.length := ⟨_, rfl⟩
  have LEN : Hid (nl = l.length ∧ nq = v.length ∧ nc = code.length) := ⟨hnl, hnq, hnc⟩
  rw [← hnl] at HX cb ct CR
  rw [← hnq] at HX h1
  rw [← hnc] at HX h2
  rw [← hnl, ← hnq, ← hnc]
  rw [← hD] at cb ct CR G ⊢
  generalize booksV l m k r x = bs at *
  clear GH hnl hnq hnc hD T hx DM
  go_enter Try.func4, Try.ntmps4
  go_wp2_with fail
  go_fit cb
  rintro e w1 ⟨⟨b, rfl⟩, e1⟩
  subst e1
  clear cb
  cases b with
  | true =>
    go_wp2
    go_ret
    exact ⟨rfl, G.out⟩
  | false =>
    go_wp2_with fail
    go_fit ct
    rintro e w2 ⟨p, rfl, c2, g2⟩
    have G2 : Hid (Gb w w2) := gb_trans G.out g2
    have C2 : Hid (CodAt w2 p (m * s) bs) := by unfold Hid; rw [← DD.out]; exact c2
    have hw0 : (w.alloc (.cells #[.int .i64 (D : Int), .int .i64 (m : Int), .int .i64 (k : Int), .int .i64 (r : Int), .int .u64 x] 25)).cell? ⟨w.heap.size, 0, none⟩ = some (.int .i64 (D : Int)) := by simp [go_sem]
    have hw1 : (w.alloc (.cells #[.int .i64 (D : Int), .int .i64 (m : Int), .int .i64 (k : Int), .int .i64 (r : Int), .int .u64 x] 25)).cell? ⟨w.heap.size, 1, none⟩ = some (.int .i64 (m : Int)) := by simp [go_sem]
    have hw2 : (w.alloc (.cells #[.int .i64 (D : Int), .int .i64 (m : Int), .int .i64 (k : Int), .int .i64 (r : Int), .int .u64 x] 25)).cell? ⟨w.heap.size, 2, none⟩ = some (.int .i64 (k : Int)) := by simp [go_sem]
    have hw3 : (w.alloc (.cells #[.int .i64 (D : Int), .int .i64 (m : Int), .int .i64 (k : Int), .int .i64 (r : Int), .int .u64 x] 25)).cell? ⟨w.heap.size, 3, none⟩ = some (.int .i64 (r : Int)) := by simp [go_sem]
    have hw4 : (w.alloc (.cells #[.int .i64 (D : Int), .int .i64 (m : Int), .int .i64 (k : Int), .int .i64 (r : Int), .int .u64 x] 25)).cell? ⟨w.heap.size, 4, none⟩ = some (.int .u64 x) := by simp [go_sem]
    have hw0 := gb_keeps g2 hw0
    have hw1 := gb_keeps g2 hw1
    have hw2 := gb_keeps g2 hw2
    have hw3 := gb_keeps g2 hw3
    have hw4 := gb_keeps g2 hw4
    have cr := CR.out w2 G2.out
    clear ct g2 c2 G CR
    go_wp2_with fail
    go_fit cr
    rintro e w3 ⟨mp, rfl, m3, g3⟩
    have M3 : Hid (MCod w3 mp (m * s) m bs) := by unfold Hid; rw [← DD.out]; exact m3
    have G3 : Hid (Gb w3 w3 ∧ Gb w w3 ∧ Gb w2 w3 ∧ Gb w3 w3) := ⟨Below.refl _ _, gb_trans G2.out g3, g3, Below.refl _ _⟩
    clear cr m3 g3 hw0 hw1 hw2 hw3 hw4
    obtain ⟨zE, XE, bE, pE, qE⟩ := two_enc (p := p) (q := mp) (v := .slice aq nq cq) (x := v) BK.out
    obtain ⟨zD, XD, bD, pD, qD⟩ := two_dec (p := p) (q := mp) (v := .slice ac nc cc) (code := code) BK.out (by have := LEN.out; omega)
    obtain ⟨zT, XT, bT, pT, qT⟩ := two_tab (p := p) (q := mp) (v := .slice aq nq cq) (x := v) BK.out
    have BD : Hid (XE.length ≤ 4096 ∧ XD.length ≤ 4096 ∧ XT.length ≤ 4096 ∧ ∀ i, i < XT.length → XT[i]!.length ≤ 4096) := ⟨bE, bD, bT.1, bT.2⟩
    clear bE bD bT
    have c4 := pE w3 ⟨C2.out.gb G3.out.2.2.1, HX.out.2.2.1.gb G3.out.2.1⟩
    go_wp2_with fail
    go_fit c4
    rintro e w4 ⟨a4, n4, k4, rfl, r4, g4⟩
    have R4 : Hid (RdI w4 (.slice a4 n4 k4) XE) := r4
    have G4 : Hid (Gb w3 w4 ∧ Gb w w4 ∧ Gb w2 w4 ∧ Gb w3 w4) := ⟨gb_trans G3.out.1 g4, gb_trans G3.out.2.1 g4, gb_trans G3.out.2.2.1 g4, g4⟩
    clear c4 r4 g4
    have c5 := qE w4 ⟨M3.out.gb G4.out.1, HX.out.2.2.1.gb G4.out.2.1⟩
    go_wp2_with fail
    go_fit c5
    rintro e w5 ⟨a5, n5, k5, rfl, r5, g5⟩
    have R5 : Hid (RdI w5 (.slice a5 n5 k5) XE) := r5
    have G5 : Hid (Gb w3 w5 ∧ Gb w w5 ∧ Gb w2 w5 ∧ Gb w4 w5) := ⟨gb_trans G4.out.1 g5, gb_trans G4.out.2.1 g5, gb_trans G4.out.2.2.1 g5, g5⟩
    clear c5 r5 g5
    have c6 := pD w5 ⟨C2.out.gb G5.out.2.2.1, HX.out.2.2.2.gb G5.out.2.1⟩
    go_wp2_with fail
    go_fit c6
    rintro e w6 ⟨a6, n6, k6, rfl, r6, g6⟩
    have R6 : Hid (RdI w6 (.slice a6 n6 k6) XD) := r6
    have G6 : Hid (Gb w3 w6 ∧ Gb w w6 ∧ Gb w2 w6 ∧ Gb w5 w6) := ⟨gb_trans G5.out.1 g6, gb_trans G5.out.2.1 g6, gb_trans G5.out.2.2.1 g6, g6⟩
    clear c6 r6 g6
    have c7 := qD w6 ⟨M3.out.gb G6.out.1, HX.out.2.2.2.gb G6.out.2.1⟩
    go_wp2_with fail
    go_fit c7
    rintro e w7 ⟨a7, n7, k7, rfl, r7, g7⟩
    have R7 : Hid (RdI w7 (.slice a7 n7 k7) XD) := r7
    have G7 : Hid (Gb w3 w7 ∧ Gb w w7 ∧ Gb w2 w7 ∧ Gb w6 w7) := ⟨gb_trans G6.out.1 g7, gb_trans G6.out.2.1 g7, gb_trans G6.out.2.2.1 g7, g7⟩
    clear c7 r7 g7
    have c8 := pT w7 ⟨C2.out.gb G7.out.2.2.1, HX.out.2.2.1.gb G7.out.2.1⟩
    go_wp2_with fail
    go_fit c8
    rintro e w8 ⟨a8, n8, k8, rfl, r8, g8⟩
    have R8 : Hid (RdT w8 (.slice a8 n8 k8) XT) := r8
    have G8 : Hid (Gb w3 w8 ∧ Gb w w8 ∧ Gb w2 w8 ∧ Gb w7 w8) := ⟨gb_trans G7.out.1 g8, gb_trans G7.out.2.1 g8, gb_trans G7.out.2.2.1 g8, g8⟩
    clear c8 r8 g8
    have c9 := qT w8 ⟨M3.out.gb G8.out.1, HX.out.2.2.1.gb G8.out.2.1⟩
    go_wp2_with fail
    go_fit c9
    rintro e w9 ⟨a9, n9, k9, rfl, r9, g9⟩
    have R9 : Hid (RdT w9 (.slice a9 n9 k9) XT) := r9
    have G9 : Hid (Gb w3 w9 ∧ Gb w w9 ∧ Gb w2 w9 ∧ Gb w8 w9) := ⟨gb_trans G8.out.1 g9, gb_trans G8.out.2.1 g9, gb_trans G8.out.2.2.1 g9, g9⟩
    clear c9 r9 g9
    clear pE qE pD qD pT qT
    have cx := fun W (g : Gb w9 W) => ints_c ((R4.out.gb (gb_trans G5.out.2.2.2 (gb_trans G6.out.2.2.2 (gb_trans G7.out.2.2.2 (gb_trans G8.out.2.2.2 G9.out.2.2.2))))).gb g) ((R5.out.gb (gb_trans G6.out.2.2.2 (gb_trans G7.out.2.2.2 (gb_trans G8.out.2.2.2 G9.out.2.2.2)))).gb g) (by have := BD.out; omega)
    have cy := fun W (g : Gb w9 W) => ints_c ((R6.out.gb (gb_trans G7.out.2.2.2 (gb_trans G8.out.2.2.2 G9.out.2.2.2))).gb g) ((R7.out.gb (gb_trans G8.out.2.2.2 G9.out.2.2.2)).gb g) (by have := BD.out; omega)
    have cz := fun W (g : Gb w9 W) => rsameT_c ((R8.out.gb G9.out.2.2.2).gb g) (R9.out.gb g) BD.out.2.2.1 BD.out.2.2.2
    rw [decide_eq_true rfl] at cx cy
    go_wp2_with (first
      | (go_at_call 12; refine (awake_c _).mono ?_; rintro e wA ⟨rfl, gA⟩)
      | (go_at_call_of 22 a4; refine (cx _ gA).mono ?_; rintro e wB ⟨rfl, gB⟩)
      | (go_at_call_of 22 a6; refine (cy _ (gb_trans gA gB.gb)).mono ?_; rintro e wC ⟨rfl, gC⟩)
      | (go_at_call 23; refine (cz _ (gb_trans gA (gb_trans gB.gb gC.gb))).mono ?_; rintro e wD ⟨rfl, gD⟩))
    go_ret
    exact ⟨rfl, gb_trans G9.out.2.1 (gb_trans gA (gb_trans gB.gb (gb_trans gC.gb gD)))⟩

theorem codes_law {w : World} {lv vv cv : Value} {l : Vs} {v code : List Int} (hl : RdVJ w lv l) (d m k r x : Int) (hx : Rn.U x) (hq : RdJ w vv v) (hc : RdI w cv code) :
    Calls Try.prog 4 #[lv, .agg #[.int .i64 d, .int .i64 m, .int .i64 k, .int .i64 r, .int .u64 x], vv, cv] w fun e w' => e = .returned (.bool true) ∧ Gb w w' := by
  by_cases h1 : 32768 < v.length
  · exact codes_long hl d m k r x hq hc (.inl h1)
  by_cases h2 : 32768 < code.length
  · exact codes_long hl d m k r x hq hc (.inr h2)
  by_cases hz : pqE l d m k r = 0
  · obtain ⟨M, S, K, R, rfl, rfl, rfl, rfl, T⟩ := TrOk.of hz
    exact codes_ok hl T x hx hq hc (by omega) (by omega)
  · exact codes_no hl d m k r x hq hc (by omega) (by omega) hz
end Go.Proofs.Ytblfmhdcgmkpgaa
