/- kmeans.nearest, Near, Cost. -/
import Derived.Test.YtblfmhdcgmkpgaaKRd
namespace Go.Proofs.Ytblfmhdcgmkpgaa
open Go.RowKit

theorem RdV.gr {w w' : World} {v : Value} {vs : Vs} (h : RdV w v vs) (g : Gr w w') : RdV w' v vs := h.gb g.gb
theorem RdI.gr {w w' : World} {v : Value} {l : List Int} (h : RdI w v l) (g : Gr w w') : RdI w' v l := h.gb g.gb
/-- Where centre i lies, and its distance. -/
theorem cen_at {w : World} {a : Option Addr} {n cap : Nat} {cs : Vs} (h : RdV w (.slice a n cap) cs) {i : Nat} (hi : i < cs.length) : ∃ b o u, a = some ⟨b, o, none⟩ ∧ w.cell? ⟨b, o + i, none⟩ = some u ∧ RdI w u cs[i]! := by
  obtain ⟨_, _, e, h⟩ := h
  cases e
  exact h i hi
theorem dist_near {w : World} {u v : Value} {cs : Vs} {x : List Int} {d : Int} {i : Nat} (hi : i < cs.length) (hu : RdI w u cs[i]!) (hv : RdI w v x) (hc : VsOk cs d) (hx : chk x d = 0) :
    Calls Try.prog 54 #[u, v] w fun e w' => e = .returned (.tuple #[Wd (dst cs[i]! x), .int .i64 0]) ∧ Gr w w' := by
  have c := dist_c hu hv
  obtain ⟨e1, e2⟩ := near_dist hc hx hi
  rw [e1, e2] at c
  exact c

set_option maxHeartbeats 4000000 in
set_option maxRecDepth 100000 in
theorem nearest_c {w : World} {u v : Value} {cs : Vs} {x : List Int} {d : Int} (hu : RdV w u cs) (hv : RdI w v x) (hc : VsOk cs d) (hx : chk x d = 0) (h0 : 1 ≤ cs.length) (h64 : cs.length ≤ 64) :
    Calls Try.prog 53 #[u, v] w fun e w' => e = .returned (.tuple #[.int .i64 ((nearP cs x).1 : Int), Wd (nearP cs x).2]) ∧ Gr w w' := by
  have U : Hid (RdV w u cs) := hu
  have V : Hid (RdI w v x) := hv
  have K : Hid (VsOk cs d ∧ chk x d = 0) := ⟨hc, hx⟩
  obtain ⟨a, cap, rfl, ha⟩ := hu
  obtain ⟨px, cx, rfl, _⟩ := hv
  obtain ⟨n, hN⟩ : ∃ n, n = cs.length := ⟨_, rfl⟩
  have N : Hid (n = cs.length) := hN
  rw [← hN] at h0 h64 U ⊢
  obtain ⟨b, o, u0, ea, k1, k2⟩ := ha 0 (by omega)
  subst ea
  rw [Nat.add_zero] at k1
  have G0 : Gr w (w.alloc (.cells #[.int .u64 0, .int .u64 0] 51)) := (Gr.refl _).alloc _ _
  replace k1 := G0.keeps k1
  have c0 := dist_near (i := 0) (by omega) (k2.gr G0) (V.out.gr G0) hc hx
  clear ha hN hc hx
  generalize x.length = nx at *
  have D0 : Hid (dst cs[0]! x = (nearTo cs x 0).2) := rfl
  generalize dst cs[0]! x = s0 at *
  obtain ⟨pu, cu, rfl, _⟩ := k2
  generalize cs[0]!.length = m0 at *
  go_enter Try.func53, Try.ntmps53
  go_wp2_with fail
  refine c0.mono ?_
  rintro e w1 ⟨rfl, g1⟩
  have hB : (w.alloc (.cells #[.int .u64 0, .int .u64 0] 51)).heap.size ≤ w1.heap.size := g1.size
  have S0 : At2 (w1.alloc (.cells #[.int .u64 (hi s0), .int .u64 (lo s0)] 51)) w1.heap.size s0 := At2.new w1 s0 _
  have G1 : Gr (w.alloc (.cells #[.int .u64 0, .int .u64 0] 51)) (w1.alloc (.cells #[.int .u64 (hi s0), .int .u64 (lo s0)] 51)) := g1.alloc _ _
  clear c0 k1
  go_wp2
  go_loopw [6, 9] (fun pv iv w' => ∃ q : Nat, iv = .int .i64 ((q : Int) + 1) ∧ q + 1 ≤ n ∧ pv = .int .i64 ((nearTo cs x q).1 : Int) ∧ Gr (w.alloc (.cells #[.int .u64 0, .int .u64 0] 51)) w' ∧ At2 w' w1.heap.size (nearTo cs x q).2) (fun _ iv _ => n - (intOf iv).toNat)
  case atStart => exact ⟨0, rfl, h0, rfl, G1, by rw [← D0.out]; exact S0⟩
  case round =>
    clear S0 G1 g1
    obtain ⟨q, rfl, hq, rfl, hG, hS⟩ := hrel
    by_cases hqn : q + 1 < n
    · have hqi : (q : Int) + 1 < (n : Int) := by omega
      have hql : q + 1 < cs.length := by have := N.out; omega
      obtain ⟨b1, o1, u1, ea, k1, k2⟩ := cen_at U.out hql
      cases ea
      have G2 : Gr w wr := ((Gr.refl _).alloc _ _).trans hG
      have x0 := G2.keeps k1
      have c := dist_near hql (k2.gr G2) (V.out.gr G2) K.out.1 K.out.2
      have NX : Hid (nearTo cs x (q + 1) = if dst cs[q + 1]! x < (nearTo cs x q).2 then (q + 1, dst cs[q + 1]! x) else nearTo cs x q) := rfl
      obtain ⟨pu1, cu1, rfl, _⟩ := k2
      generalize cs[q + 1]!.length = m1 at *
      obtain ⟨p, hp⟩ : ∃ p, p = nearTo cs x q := ⟨_, rfl⟩
      rw [← hp] at hS NX ⊢
      clear hp k1
      obtain ⟨pp, pd⟩ := p
      dsimp only at hS NX ⊢
      generalize dst cs[q + 1]! x = s at *
      have cc := fun W => cmp_any s pd W
      by_cases hlt : s < pd
      · have e : cmp3 s pd = -1 := by unfold cmp3; rw [if_pos hlt]
        rw [if_pos hlt] at NX
        simp only [e] at cc
        clear e hlt
        go_wp2_with fail
        refine c.mono ?_
        rintro e w2 ⟨rfl, g2⟩
        have g3 : Gr w2 (w2.alloc (.cells #[.int .u64 (hi s), .int .u64 (lo s)] 51)) := (Gr.refl _).alloc _ _
        have hS3 := (hS.gr g2).gr g3
        have hG3 := (hG.trans g2).trans g3
        have T3 : At2 (w2.alloc (.cells #[.int .u64 (hi s), .int .u64 (lo s)] 51)) w2.heap.size s := At2.new w2 s _
        have hne : w1.heap.size ≠ w2.heap.size := by have := cell_lt (hS.gr g2).c0; dsimp only at this; omega
        have hS4 := hS3
        obtain ⟨s0, s1, s2, s3⟩ := hS4
        clear hS hG g2 c x0 g3
        go_wp2_with fail
        refine (cc _).mono ?_
        rintro e w3 ⟨rfl, g4⟩
        have hS5 := hS3.gr g4
        have hT5 := T3.gr g4
        have hG5 := hG3.trans g4
        have hS6 := hS5
        have hT6 := hT5
        obtain ⟨q0, q1, q2, q3⟩ := hS6
        obtain ⟨r0, r1, r2, r3⟩ := hT6
        clear s0 s1 s2 s3 T3 hS3 hG3 g4 cc hT5
        go_wp2
        go_region
        all_goals
          have hG7 := ((hG5.drew).setCell (p := ⟨w1.heap.size, 0, none⟩) hB (.int .u64 (hi s))).setCell (p := ⟨w1.heap.size, 1, none⟩) hB (.int .u64 (lo s))
          have hS7 := At2.set (w := w3.drew) ⟨hS5.c0, hS5.c1, hS5.f0, hS5.f1⟩ s
          clear q0 q1 q2 q3 r0 r1 r2 r3 hS5 hG5
          go_wp2
          refine ⟨⟨q + 1, by go_num, hqn, by rw [NX.out]; go_num, hG7, by rw [NX.out]; exact hS7⟩, by simp [intOf]; omega⟩
      · have e : cmp3 s pd = 0 ∨ cmp3 s pd = 1 := by unfold cmp3; rw [if_neg hlt]; split; exact .inl rfl; exact .inr rfl
        have he : ¬ cmp3 s pd < 0 := by omega
        rw [if_neg hlt] at NX
        generalize cmp3 s pd = cz at *
        clear e hlt
        go_wp2_with fail
        refine c.mono ?_
        rintro e w2 ⟨rfl, g2⟩
        have g3 : Gr w2 (w2.alloc (.cells #[.int .u64 (hi s), .int .u64 (lo s)] 51)) := (Gr.refl _).alloc _ _
        have hS3 := (hS.gr g2).gr g3
        have hG3 := (hG.trans g2).trans g3
        have hS4 := hS3
        obtain ⟨s0, s1, s2, s3⟩ := hS4
        clear hS hG g2 c x0 g3
        go_wp2_with fail
        refine (cc _).mono ?_
        rintro e w3 ⟨rfl, g4⟩
        have hS5 := hS3.gr g4
        have hG5 := hG3.trans g4
        clear s0 s1 s2 s3 hS3 hG3 g4 cc
        go_wp2
        go_roundw
        case rel => exact ⟨q + 1, by go_num, hqn, by rw [NX.out], hG5, by rw [NX.out]; exact hS5⟩
        case measure => simp [intOf]; omega
    · have hqi : ¬ (q : Int) + 1 < (n : Int) := by omega
      have E : Hid (nearP cs x = nearTo cs x q) := by
        unfold Hid nearP; rw [← N.out, show n - 1 = q by omega]
      obtain ⟨p, hp⟩ : ∃ p, p = nearTo cs x q := ⟨_, rfl⟩
      rw [← hp] at hS E ⊢
      clear hp
      obtain ⟨pp, pd⟩ := p
      dsimp only at hS ⊢
      obtain ⟨s0, s1, s2, s3⟩ := hS
      obtain ⟨v0, v1, v2, v3⟩ := hG.var2
      go_wp2
      go_region
      all_goals
        go_wp2
        exact bodyPost_ret (v := .tuple #[.int .i64 (pp : Int), Wd pd]) (by simp [results, Try.results53, go_sem, v0, v1]) rfl ⟨by rw [E.out], ((((Gr.refl _).alloc _ _).trans hG.drew).setCell (by simp) _).setCell (by simp) _⟩

/-- What Near answers. -/
def nearE (cs : Vs) (x : List Int) : Int := if cenE cs = 0 then chk x (cs[0]!.length : Int) else cenE cs
set_option maxHeartbeats 2000000 in
theorem near_c {w : World} {u v : Value} {cs : Vs} {x : List Int} (hu : RdV w u cs) (hv : RdI w v x) :
    Calls Try.prog 35 #[u, v] w fun e w' => e = .returned (.tuple #[.int .i64 (if nearE cs x = 0 then ((nearP cs x).1 : Int) else 0), Wd (if nearE cs x = 0 then (nearP cs x).2 else 0), .int .i64 (nearE cs x)]) ∧ Gr w w' := by
  have G0 : Gr w (w.alloc (.cells #[.int .u64 0, .int .u64 0] 51)) := (Gr.refl _).alloc _ _
  have cc := checkCentres_c (hu.gr G0)
  have U : Hid (RdV w u cs) := hu
  have V : Hid (RdI w v x) := hv
  obtain ⟨a, cap, rfl, ha⟩ := hu
  obtain ⟨px, cx, rfl, _⟩ := hv
  by_cases h1 : cenE cs = 0
  · have E : nearE cs x = chk x (cs[0]!.length : Int) := by unfold nearE; rw [if_pos h1]
    obtain ⟨⟨h2, h3⟩, h4⟩ := cenE_zero.1 h1
    rw [h1] at cc
    have cx' := check_c (V.out.gr G0) (cs[0]!.length : Int)
    obtain ⟨b, o, u0, ea, k1, k2⟩ := ha 0 (by omega)
    subst ea
    rw [Nat.add_zero] at k1
    replace k1 := G0.keeps k1
    obtain ⟨pu, cu, rfl, _⟩ := k2
    rw [E]
    by_cases h5 : chk x (cs[0]!.length : Int) = 0
    · have cn := nearest_c (U.out.gr G0) (V.out.gr G0) h4 h5 h2 h3
      rw [if_pos h5, if_pos h5]
      rw [h5] at cx' ⊢
      clear ha U V E h5 h4 h1
      generalize nearP cs x = p at *
      obtain ⟨pp, pd⟩ := p
      dsimp only at cn ⊢
      generalize cs.length = n at *
      generalize cs[0]!.length = m at *
      generalize x.length = nx at *
      go_enter Try.func35, Try.ntmps35
      go_wp2_with fail
      refine cc.mono ?_
      rintro e w' ⟨rfl, e2⟩
      subst e2
      go_wp2_with fail
      refine cx'.mono ?_
      rintro e w' ⟨rfl, e2⟩
      subst e2
      go_wp2_with fail
      refine cn.mono ?_
      rintro e w2 ⟨rfl, g2⟩
      have T2 : At2 (w2.alloc (.cells #[.int .u64 (hi pd), .int .u64 (lo pd)] 51)) w2.heap.size pd := At2.new w2 pd _
      have g3 := g2.alloc #[.int .u64 (hi pd), .int .u64 (lo pd)] 51
      obtain ⟨s0, s1, s2, s3⟩ := T2
      obtain ⟨v0, v1, v2, v3⟩ := g3.var2
      clear cc cx' cn k1
      go_wp2
      go_region
      all_goals
        go_wp2
        exact bodyPost_ret (v := .tuple #[.int .i64 (pp : Int), Wd pd, .int .i64 0]) (by simp [results, Try.results35, go_sem, v0, v1]) rfl ⟨rfl, ((G0.trans g3.drew).setCell (by simp) _).setCell (by simp) _⟩
    · have h6 : (chk x (cs[0]!.length : Int) == 0) = false := by rw [beq_eq_false_iff_ne]; exact h5
      rw [if_neg h5, if_neg h5]
      clear ha U V E h4 h1
      generalize chk x (cs[0]!.length : Int) = z at *
      generalize cs.length = n at *
      generalize cs[0]!.length = m at *
      generalize x.length = nx at *
      go_enter Try.func35, Try.ntmps35
      go_wp2_with fail
      refine cc.mono ?_
      rintro e w' ⟨rfl, e2⟩
      subst e2
      go_wp2_with fail
      refine cx'.mono ?_
      rintro e w' ⟨rfl, e2⟩
      subst e2
      go_wp2
      exact bodyPost_ret (v := .tuple #[.int .i64 0, Wd 0, .int .i64 z]) (by simp [results, Try.results35, go_sem, hi, lo]) rfl ⟨by rfl, by repeat (first | exact G0 | refine Gr.setCell ?_ (by simp) _)⟩
  · have E : nearE cs x = cenE cs := by unfold nearE; rw [if_neg h1]
    have h6 : (cenE cs == 0) = false := by rw [beq_eq_false_iff_ne]; exact h1
    rw [E, if_neg h1, if_neg h1]
    clear ha U V E
    generalize cenE cs = z at *
    generalize cs.length = n at *
    generalize x.length = nx at *
    go_enter Try.func35, Try.ntmps35
    go_wp2_with fail
    refine cc.mono ?_
    rintro e w' ⟨rfl, e2⟩
    subst e2
    go_wp2
    exact bodyPost_ret (v := .tuple #[.int .i64 0, Wd 0, .int .i64 z]) (by simp [results, Try.results35, go_sem, hi, lo]) rfl ⟨by rfl, by repeat (first | exact G0 | refine Gr.setCell ?_ (by simp) _)⟩
end Go.Proofs.Ytblfmhdcgmkpgaa
