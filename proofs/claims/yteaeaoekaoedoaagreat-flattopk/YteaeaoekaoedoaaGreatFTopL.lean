/- FlatTopK: the walk. -/
import Derived.Test.YteaeaoekaoedoaaGreatM44
import Derived.Test.YteaeaoekaoedoaaGreatFLendC
import Derived.Test.YteaeaoekaoedoaaGreatFBackC
namespace Go.Proofs.YteaeaoekaoedoaaGreat
open Go.RowKit Go.Sort

set_option maxHeartbeats 1000000 in
theorem big_b {w : World} {v u : Value} {rs : List Rw} {q : List Int} (hv : RdW w v rs) (hu : RdI w u q) (hlen : rs.length ≤ 4611686018427387904) (hrow : ∀ i, i < rs.length → rs[i]!.2.length ≤ 4611686018427387904) :
    Calls Tryz.prog 7 #[v, u] w fun e w' => ∃ b, e = .returned (.bool b) ∧ (b = false → rs.length ≤ 2000 ∧ q.length ≤ 65536 ∧ coords rs ≤ 65536) ∧ w = w' := by
  have c := vects_b hv 65536 hlen (by decide) hrow
  obtain ⟨av, cv, rfl, _⟩ := hv
  obtain ⟨au, cu, rfl, _⟩ := hu
  clear hrow
  generalize coords rs = s at *
  generalize rs.length = n at *
  generalize q.length = m at *
  go_enter Tryz.func7, Tryz.ntmps7
  go_wp2_with fail
  refine c.mono ?_
  rintro e w' ⟨⟨z, rfl, hz⟩, e2⟩
  subst e2
  clear c
  by_cases h1 : 65536 < z
  · go_wp2
    go_ret
    exact ⟨true, rfl, fun e => absurd e (by decide), rfl⟩
  · have hz := hz (by omega)
    by_cases h2 : 2000 < (n : Int)
    · go_wp2
      go_ret
      exact ⟨true, rfl, fun e => absurd e (by decide), rfl⟩
    · by_cases h3 : 65536 < (m : Int)
      · go_wp2
        go_ret
        exact ⟨true, rfl, fun e => absurd e (by decide), rfl⟩
      · go_wp2
        go_ret
        exact ⟨false, by simp [h1, h2, h3], fun _ => ⟨by omega, by omega, by omega⟩, rfl⟩
theorem own_keep {W W' : World} {v : Value} {d : Array Tk.Ht} (h : Tk.Own W v d) (e : ∀ g, v.ownBlock = some g → W'.heap[g]? = W.heap[g]?) : Tk.Own W' v d := by
  unfold Tk.Own at *
  refine ⟨h.1, ?_⟩
  rcases h.2 with h2 | ⟨g, cap, cur, rfl, hb, hh, r⟩
  · exact .inl h2
  · exact .inr ⟨g, cap, cur, rfl, hb, (e g rfl).trans hh, r⟩
theorem own_lt {W : World} {v : Value} {d : Array Tk.Ht} (h : Tk.Own W v d) {g : Nat} (e : v.ownBlock = some g) : g < W.heap.size := by
  rcases h.2 with ⟨rfl, _⟩ | ⟨g', cap, cur, rfl, hb, hh, r⟩
  · cases e
  · cases e; exact (Array.getElem?_eq_some_iff.1 hh).1

set_option maxRecDepth 100000 in
set_option maxHeartbeats 400000 in
theorem top_law {w : World} {v u : Value} {rs : List Rw} {q : List Int} (hv : RdW w v rs) (hu : RdI w u q) (hwf : Wf rs) (hrow : ∀ i, i < rs.length → rs[i]!.2.length ≤ 4611686018427387904) (k d : Int) :
    Calls Tryz.prog 3 #[v, u, .int .i64 k, .int .i64 d] w fun e w' => e = .returned (.bool true) ∧ Gb w w' := by
  have cbig := big_b hv hu hwf.1 hrow
  have V : Hid (RdW w v rs) := hv
  have U : Hid (RdI w u q) := hu
  have WH : Hid (Wf rs) := hwf
  obtain ⟨av, cv, rfl, _⟩ := hv
  obtain ⟨au, cu, rfl, _⟩ := hu
  obtain ⟨n, hn⟩ : ∃ n, n = rs.length := ⟨_, rfl⟩
  obtain ⟨m, hm⟩ : ∃ m, m = q.length := ⟨_, rfl⟩
  have NH : Hid (n = rs.length) := hn
  have MH : Hid (m = q.length) := hm
  obtain ⟨m1, hm1⟩ : ∃ m1, m1 = n + 1 := ⟨_, rfl⟩
  obtain ⟨m2, hm2⟩ : ∃ m2, m2 = m + 1 := ⟨_, rfl⟩
  have MM : Hid (m1 = n + 1 ∧ m2 = m + 1) := ⟨hm1, hm2⟩
  rw [← hn] at V cbig ⊢
  rw [← hm] at U cbig ⊢
  clear hwf hrow hm1 hm2 hn hm
  go_enter Tryz.func3, Tryz.ntmps3
  go_wp2_with fail
  go_fit cbig
  rintro e w' ⟨b, rfl, hb, e2⟩
  subst e2
  clear cbig
  cases b with
  | true =>
    go_wp2
    go_ret
    exact ⟨rfl, Below.refl _ _⟩
  | false =>
    obtain ⟨b1, b2, b3⟩ := hb rfl
    have B2 : Hid (q.length ≤ 65536) := by unfold Hid; have := MH.out; omega
    have B3 : Hid (∀ i, i < rs.length → rs[i]!.2.length ≤ 65536) := fun i hi => by have := coords_row hi; omega
    have B1 : Hid (rs.length ≤ 65536) := by unfold Hid; have := NH.out; omega
    have cl := lendrows_c V.out B1.out B3.out
    rw [← NH.out, ← MM.out.1] at cl
    clear hb b1 b2 b3
    go_wp2_with fail
    go_fit cl
    rintro e w1 ⟨G, rfl, h1⟩
    have L1 : Hid (LentR w w1 G rs) := h1
    have g1 : Hid (Gb w w1) := by obtain ⟨f, h⟩ := h1; exact h.gb
    have cq := lend_c (U.out.gb g1.out) B2.out
    rw [← MH.out, ← MM.out.2] at cq
    clear cl h1
    go_wp2_with fail
    go_fit cq
    rintro e w2 ⟨gq, rfl, h1, h2⟩
    have Q2 : Hid (Lent w2 w1.heap.size gq q) := h1
    have g2 : Hid (Gb w1 w2) := h2
    have cc := fcheck_c (L1.out.gr h2).rd WH.out d
    rw [← NH.out, ← MM.out.1] at cc
    clear cq h1 h2
    go_wp2_with fail
    go_fit cc
    rintro e w3 ⟨rfl, h1⟩
    have g3 : Hid (Gb w2 w3) := h1
    have Q3 : Hid (Lent w3 w1.heap.size gq q) := Q2.out.gb h1
    have ct := topk_c ((L1.out.gr g2.out).gr h1).rd (Q2.out.gb h1).rd WH.out k
    rw [← NH.out, ← MH.out, ← MM.out.1, ← MM.out.2] at ct
    clear cc h1
    obtain ⟨z, hz⟩ : ∃ z, z = topE rs q k := ⟨_, rfl⟩
    have ZH : Hid (z = topE rs q k) := hz
    rw [← hz] at ct
    clear hz
    go_wp2_with fail
    go_fit ct
    rintro e w4 ⟨vh, rfl, h4, no4', yes4'⟩
    have g4 : Hid (Gb w3 w4) := h4
    have no4 : Hid (z ≠ 0 → vh = .slice none 0 0) := no4'
    have yes4 : Hid (z = 0 → OutH w3 w4 vh (Tk.firsts k.toNat (hitsOf q rs))) := yes4'
    have G4 : Hid (Gb w w4) := gb_trans (gb_trans (gb_trans g1.out g2.out) g3.out) h4
    clear no4' yes4' h4 ct
    obtain ⟨ah, nh, ch, evh⟩ : ∃ a n c, vh = .slice a n c := by
      by_cases h0 : z = 0
      · exact own_slice (yes4.out h0).1
      · exact ⟨_, _, _, no4.out h0⟩
    subst evh
    have cb := back_c (Q3.out.gb g4.out) (U.out.gb G4.out) B2.out
    rw [← MH.out, ← MM.out.2] at cb
    go_wp2_with fail
    go_fit cb
    rintro e w5 ⟨rfl, h5⟩
    have k5 : Hid (w4.grownBy w5 (some gq)) := h5
    have SZ : Hid (w.heap.size ≤ w1.heap.size ∧ w1.heap.size ≤ w2.heap.size ∧ w2.heap.size ≤ w3.heap.size ∧ w3.heap.size ≤ w4.heap.size ∧ w4.heap.size ≤ w5.heap.size ∧ w1.heap.size ≤ gq ∧ gq < w2.heap.size) :=
      ⟨g1.out.size, g2.out.size, g3.out.size, g4.out.size, h5.size, Q2.out.1, Q2.out.lt⟩
    have G5 : Hid (Gb w w5) := below_grown G4.out h5 (fun k e => by cases e; have := SZ.out; omega) (by have := SZ.out; omega)
    obtain ⟨f, gs, T1⟩ := L1.out.lt
    have T5 : LT w.heap.size w1.heap.size w5 G rs f gs := T1.keep fun j h1 h2 => by
      have := SZ.out
      exact (h5.block j (by omega) (by simp; omega)).trans ((g4.out.block j (by omega)).trans ((g3.out.block j (by omega)).trans (g2.out.block j h2)))
    have cr := backrows_c T5 G5.out (Nat.le_refl _) V.out B1.out B3.out
    rw [← NH.out, ← MM.out.1] at cr
    clear cb h5 T1 T5
    go_wp2_with fail
    go_fit cr
    rintro e w6 ⟨rfl, h6⟩
    have m6 : Hid (Mid w.heap.size w1.heap.size w5 w6) := h6
    have G6 : Hid (Gb w w6) := h6.gb G5.out (Nat.le_refl _)
    have crt := rtop_c (V.out.gb G6.out) (U.out.gb G6.out) WH.out.1 k
    rw [← ZH.out] at crt
    clear cr h6
    go_wp2_with fail
    go_fit crt
    rintro e w7 ⟨vw, rfl, g7, no7, yes7⟩
    have G7 : Hid (Gb w w7) := gb_trans G6.out g7
    obtain ⟨A, hA, rdh, rdw⟩ : ∃ A : List Tk.Ht, A.length ≤ 4000 ∧ Tk.Rd w7 (.slice ah nh ch) A ∧ Tk.Rd w7 vw A := by
      by_cases h0 : z = 0
      · refine ⟨Tk.firsts k.toNat (hitsOf q rs), ?_, ?_, yes7 h0⟩
        · rw [Tk.firsts_len]
          have := topE_zero.1 (ZH.out.symm.trans h0)
          omega
        · obtain ⟨o4, _, ob⟩ := yes4.out h0
          have o6 : Tk.Own w6 (.slice ah nh ch) (Tk.firsts k.toNat (hitsOf q rs)).toArray := own_keep o4 fun g e => by
            have e1 := own_lt o4 e
            have e2 := ob g e
            have := SZ.out
            exact (m6.out.block g (by omega) (.inr (by omega))).trans (k5.out.block g e1 (by simp; omega))
          exact (Tk.own_rd o6).gr g7
      · refine ⟨[], by simp, ?_, ?_⟩
        · rw [no4.out h0]; exact .inl ⟨rfl, rfl⟩
        · rw [no7 h0]; exact .inl ⟨rfl, rfl⟩
    obtain ⟨aw, cw, evw, _⟩ := rdw.form
    subst evw
    have cs := fun W (gW : Gb w7 W) => Tk.same_c (rdh.gr gW) (rdw.gr gW) hA
    simp only [decide_true] at cs
    have cf := fun W (gW : Gb w7 W) => rflat_c (V.out.gb (gb_trans G7.out gW)) WH.out.1 d
    have aw := awake_c w7
    generalize flatE rs d = y at *
    generalize A.length = nA at *
    clear crt no4 yes4 no7 yes7 rdh rdw m6 k5 g1 g2 g3 g4 g7 G4 G5 G6 hA SZ L1 Q2 Q3 ZH B1 B2 B3
    go_wp2_with fail
    go_fit aw
    rintro e w8 ⟨rfl, g8⟩
    have cf8 := cf w8 g8
    clear aw cf
    go_wp2_with fail
    go_fit cf8
    rintro e w9 ⟨rfl, g9⟩
    have cs9 := cs w9 (gb_trans g8 g9.gb)
    clear cf8 cs
    go_wp2_with fail
    go_fit cs9
    rintro e wa ⟨rfl, ga⟩
    have GE : Hid (Gb w wa) := gb_trans G7.out (gb_trans g8 (gb_trans g9.gb ga))
    clear cs9 ga g9 g8
    go_wp2
    go_ret
    exact ⟨by simp, GE.out⟩
end Go.Proofs.YteaeaoekaoedoaaGreat
