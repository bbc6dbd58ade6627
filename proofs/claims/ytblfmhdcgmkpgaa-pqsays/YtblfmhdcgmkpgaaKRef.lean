/- The reference's vectors, centresErr, TrainErr, Nearest, Near, Cost. -/
import Derived.Test.YtblfmhdcgmkpgaaKCost
import Derived.Test.YtblfmhdcgmkpgaaFar
import Derived.Test.YtblfmhdcgmkpgaaRLess
namespace Go.Proofs.Ytblfmhdcgmkpgaa
open Go.RowKit

set_option maxHeartbeats 2000000 in
set_option maxRecDepth 100000 in
theorem rvectors_c {w : World} {v : Value} {vs : Vs} (h : RdV w v vs) (d : Int) (hlen : vs.length ≤ 4611686018427387904) :
    Calls Try.prog 62 #[v, .int .i64 d] w fun e w' => e = .returned (.int .i64 (vecsE vs d)) ∧ w = w' := by
  obtain ⟨a, cap, rfl, ha⟩ := h
  have A : Hid (∀ i, i < vs.length → ∃ b o u, a = some ⟨b, o, none⟩ ∧ w.cell? ⟨b, o + i, none⟩ = some u ∧ RdI w u vs[i]!) := ha
  obtain ⟨n, hN⟩ : ∃ n, n = vs.length := ⟨_, rfl⟩
  have N : Hid (n = vs.length) := hN
  rw [← hN] at hlen ⊢
  clear ha hN
  go_enter Try.func62, Try.ntmps62
  go_wp2
  go_loopw [5] (fun iv w' => ∃ q : Nat, iv = .int .i64 (q : Int) ∧ q ≤ n ∧ w = w' ∧ Hid (vecsTo vs d q = 0)) (fun iv _ => n - (intOf iv).toNat)
  case atStart => exact ⟨0, rfl, Nat.zero_le _, rfl, rfl⟩
  case round =>
    obtain ⟨q, rfl, hq, rfl, X⟩ := hrel
    by_cases hqn : q < n
    · have hqi : (q : Int) < (n : Int) := by omega
      have hql : q < vs.length := by have := N.out; omega
      obtain ⟨b, o, u, ea, h1, h2⟩ := A.out q hql
      subst ea
      have c := rcheck_v h2 d _ rfl
      obtain ⟨pu, cu, rfl, _⟩ := h2
      by_cases hz : chk vs[q]! d = 0
      · have R : Hid (vecsTo vs d (q + 1) = 0) := vecsTo_next X.out hz
        rw [hz] at c
        generalize vs[q]!.length = m at *
        clear hz X hql
        go_wp2_with (go_at_call 29; refine c.mono ?_; rintro e w' ⟨rfl, e2⟩; subst e2)
        go_roundw
        case rel => exact ⟨q + 1, by simp, hqn, by first | rfl | trivial, R⟩
        case measure => simp [intOf]; omega
      · have hz' : (chk vs[q]! d == 0) = false := by rw [beq_eq_false_iff_ne]; exact hz
        have R : Hid (vecsE vs d = chk vs[q]! d) := vecsTo_err hql X.out hz
        generalize chk vs[q]! d = ce at *
        generalize vs[q]!.length = m at *
        clear X hql
        go_wp2_with (go_at_call 29; refine c.mono ?_; rintro e w' ⟨rfl, e2⟩; subst e2)
        go_ret
        exact ⟨by rw [R.out]; rfl, by first | rfl | trivial⟩
    · have hqi : ¬ (q : Int) < (n : Int) := by omega
      have R : Hid (vecsE vs d = 0) := by
        have h1 := X.out
        have h2 : q = vs.length := by have := N.out; omega
        rw [h2] at h1; exact h1
      go_wp2
      go_ret
      exact ⟨by rw [R.out]; rfl, by first | rfl | trivial⟩
theorem rvectors_v {w : World} {v : Value} {vs : Vs} (h : RdV w v vs) (d r : Int) (hlen : vs.length ≤ 4611686018427387904) (hr : vecsE vs d = r) :
    Calls Try.prog 62 #[v, .int .i64 d] w fun e w' => e = .returned (.int .i64 r) ∧ w = w' := by
  subst hr; exact rvectors_c h d hlen

set_option maxHeartbeats 1000000 in
theorem rtrainE_c {w : World} {v : Value} {l : Vs} (h : RdV w v l) (k r : Int) :
    Calls Try.prog 48 #[v, .int .i64 k, .int .i64 r] w fun e w' => e = .returned (.int .i64 (trainE l k r)) ∧ w = w' := by
  by_cases h1 : 1 ≤ k ∧ k ≤ 64 ∧ 0 ≤ r ∧ r ≤ 20
  · by_cases h2 : l.length ≤ 512
    · by_cases h3 : (l.length : Int) < k
      · have e : trainE l k r = 60 := by unfold trainE; rw [if_pos h1, if_pos h2, if_pos h3]
        rw [e]
        obtain ⟨a, cap, rfl, ha⟩ := h
        obtain ⟨k1, k2, k3, k4⟩ := h1
        generalize l.length = n at *
        clear ha e
        go_enter Try.func48, Try.ntmps48
        go_wp2
        go_ret
        exact ⟨rfl, rfl⟩
      · have e : trainE l k r = vecsE l (l[0]!.length : Int) := by unfold trainE; rw [if_pos h1, if_pos h2, if_neg h3]
        rw [e]
        have c := rvectors_c h (l[0]!.length : Int) (by omega)
        obtain ⟨a, cap, rfl, ha⟩ := h
        obtain ⟨k1, k2, k3, k4⟩ := h1
        obtain ⟨b, o, u, ea, m1, m2⟩ := ha 0 (by omega)
        subst ea
        rw [Nat.add_zero] at m1
        obtain ⟨pu, cu, rfl, _⟩ := m2
        generalize vecsE l (l[0]!.length : Int) = z at *
        generalize l.length = n at *
        generalize l[0]!.length = m at *
        clear ha e
        go_enter Try.func48, Try.ntmps48
        go_wp2_with (go_at_call 62; refine c.mono ?_; rintro e w' ⟨rfl, e2⟩; subst e2)
        go_ret
        exact ⟨rfl, rfl⟩
    · have e : trainE l k r = 2 := by unfold trainE; rw [if_pos h1, if_neg h2]
      rw [e]
      obtain ⟨a, cap, rfl, ha⟩ := h
      obtain ⟨k1, k2, k3, k4⟩ := h1
      generalize l.length = n at *
      clear ha e
      go_enter Try.func48, Try.ntmps48
      go_wp2
      go_ret
      exact ⟨rfl, rfl⟩
  · have e : trainE l k r = 1 := by unfold trainE; rw [if_neg h1]
    rw [e]
    obtain ⟨a, cap, rfl, ha⟩ := h
    generalize l.length = n at *
    clear ha e
    by_cases k1 : k < 1
    · go_enter Try.func48, Try.ntmps48
      go_wp2
      go_ret
      exact ⟨rfl, rfl⟩
    by_cases k2 : 64 < k
    · go_enter Try.func48, Try.ntmps48
      go_wp2
      go_ret
      exact ⟨rfl, rfl⟩
    by_cases k3 : r < 0
    · go_enter Try.func48, Try.ntmps48
      go_wp2
      go_ret
      exact ⟨rfl, rfl⟩
    have k4 : 20 < r := by omega
    go_enter Try.func48, Try.ntmps48
    go_wp2
    go_ret
    exact ⟨rfl, rfl⟩
theorem nearTo_bd {cs : Vs} {v : List Int} {d : Int} (h : VsOk cs d) (hv : chk v d = 0) (q : Nat) (hq : q < cs.length) : (nearTo cs v q).2 ≤ 1180591619617899675904 := by
  rw [nearTo_is]
  exact dst_le (h _ (Nat.lt_of_le_of_lt (nearTo_le cs v q) hq)) hv
theorem far_near {w : World} {u v : Value} {cs : Vs} {x : List Int} {d : Int} {i : Nat} (hi : i < cs.length) (hu : RdI w u cs[i]!) (hv : RdI w v x) (hc : VsOk cs d) (hx : chk x d = 0) :
    Calls Try.prog 40 #[u, v] w fun e w' => e = .returned (Wd (dst cs[i]! x)) ∧ Gr w w' := by
  have h1 := hc.get hi
  have h2 := chk_ok hx
  exact far_c hu hv (by omega) h1.2.1 h1.2.2.2 h2.2.2.2

set_option maxHeartbeats 4000000 in
set_option maxRecDepth 100000 in
theorem rnearest_c {w : World} {u v : Value} {cs : Vs} {x : List Int} {d : Int} (hu : RdV w u cs) (hv : RdI w v x) (hc : VsOk cs d) (hx : chk x d = 0) (h0 : 1 ≤ cs.length) (h64 : cs.length ≤ 64) :
    Calls Try.prog 37 #[u, v] w fun e w' => e = .returned (.tuple #[.int .i64 ((nearP cs x).1 : Int), Wd (nearP cs x).2]) ∧ Gr w w' := by
  have U : Hid (RdV w u cs) := hu
  have V : Hid (RdI w v x) := hv
  have K : Hid (VsOk cs d ∧ chk x d = 0) := ⟨hc, hx⟩
  obtain ⟨a, cap, rfl, ha⟩ := hu
  obtain ⟨px, cx, rfl, _⟩ := hv
  obtain ⟨n, hN⟩ : ∃ n, n = cs.length := ⟨_, rfl⟩
  have N : Hid (n = cs.length) := hN
  rw [← hN] at h0 h64 U ⊢
  obtain ⟨b, o, u0, ea, k1, k2⟩ := ha 0 (by omega)
  subst ea
  rw [Nat.add_zero] at k1
  have G0 : Gr w (w.alloc (.cells #[.int .u64 0, .int .u64 0] 51)) := (Gr.refl _).alloc _ _
  replace k1 := G0.keeps k1
  have c0 := far_near (i := 0) (by omega) (k2.gr G0) (V.out.gr G0) hc hx
  clear ha hN hc hx
  generalize x.length = nx at *
  have D0 : Hid (dst cs[0]! x = (nearTo cs x 0).2) := rfl
  generalize dst cs[0]! x = s0 at *
  obtain ⟨pu, cu, rfl, _⟩ := k2
  generalize cs[0]!.length = m0 at *
  go_enter Try.func37, Try.ntmps37
  go_wp2_with fail
  refine c0.mono ?_
  rintro e w1 ⟨rfl, g1⟩
  have hB : (w.alloc (.cells #[.int .u64 0, .int .u64 0] 51)).heap.size ≤ w1.heap.size := g1.size
  have S0 : At2 (w1.alloc (.cells #[.int .u64 (hi s0), .int .u64 (lo s0)] 51)) w1.heap.size s0 := At2.new w1 s0 _
  have G1 : Gr (w.alloc (.cells #[.int .u64 0, .int .u64 0] 51)) (w1.alloc (.cells #[.int .u64 (hi s0), .int .u64 (lo s0)] 51)) := g1.alloc _ _
  clear c0 k1
  go_wp2
  go_loopw [6, 8] (fun pv iv w' => ∃ q : Nat, iv = .int .i64 ((q : Int) + 1) ∧ q + 1 ≤ n ∧ pv = .int .i64 ((nearTo cs x q).1 : Int) ∧ Gr (w.alloc (.cells #[.int .u64 0, .int .u64 0] 51)) w' ∧ At2 w' w1.heap.size (nearTo cs x q).2) (fun _ iv _ => n - (intOf iv).toNat)
  case atStart => exact ⟨0, rfl, h0, rfl, G1, by rw [← D0.out]; exact S0⟩
  case round =>
    clear S0 G1 g1
    obtain ⟨q, rfl, hq, rfl, hG, hS⟩ := hrel
    by_cases hqn : q + 1 < n
    · have hqi : (q : Int) + 1 < (n : Int) := by omega
      have hql : q + 1 < cs.length := by have := N.out; omega
      obtain ⟨b1, o1, u1, ea, k1, k2⟩ := cen_at U.out hql
      cases ea
      have G2 : Gr w wr := ((Gr.refl _).alloc _ _).trans hG
      have x0 := G2.keeps k1
      have c := far_near hql (k2.gr G2) (V.out.gr G2) K.out.1 K.out.2
      have hs0 := dst_le (K.out.1 (q + 1) hql) K.out.2
      have hp0 := nearTo_bd K.out.1 K.out.2 q (by have := N.out; omega)
      have NX : Hid (nearTo cs x (q + 1) = if dst cs[q + 1]! x < (nearTo cs x q).2 then (q + 1, dst cs[q + 1]! x) else nearTo cs x q) := rfl
      obtain ⟨pu1, cu1, rfl, _⟩ := k2
      generalize cs[q + 1]!.length = m1 at *
      obtain ⟨p, hp⟩ : ∃ p, p = nearTo cs x q := ⟨_, rfl⟩
      rw [← hp] at hS NX hp0 ⊢
      clear hp k1
      obtain ⟨pp, pd⟩ := p
      dsimp only at hS NX hp0 ⊢
      generalize dst cs[q + 1]! x = s at *
      have hsb : s < 340282366920938463463374607431768211456 := Nat.lt_of_le_of_lt hs0 (by decide)
      have hpb : pd < 340282366920938463463374607431768211456 := Nat.lt_of_le_of_lt hp0 (by decide)
      have cc := fun W => less_any s pd hsb hpb W
      by_cases hlt : s < pd
      · have e : decide (s < pd) = true := decide_eq_true hlt
        rw [if_pos hlt] at NX
        simp only [e] at cc
        clear e hlt
        go_wp2_with fail
        refine c.mono ?_
        rintro e w2 ⟨rfl, g2⟩
        have g3 : Gr w2 (w2.alloc (.cells #[.int .u64 (hi s), .int .u64 (lo s)] 51)) := (Gr.refl _).alloc _ _
        have hS3 := (hS.gr g2).gr g3
        have hG3 := (hG.trans g2).trans g3
        have T3 : At2 (w2.alloc (.cells #[.int .u64 (hi s), .int .u64 (lo s)] 51)) w2.heap.size s := At2.new w2 s _
        have hne : w1.heap.size ≠ w2.heap.size := by have := cell_lt (hS.gr g2).c0; dsimp only at this; omega
        have hS4 := hS3
        obtain ⟨s0, s1, s2, s3⟩ := hS4
        clear hS hG g2 c x0 g3
        go_wp2_with fail
        refine (cc _).mono ?_
        rintro e w3 ⟨rfl, g4⟩
        have hS5 := hS3.gr g4
        have hT5 := T3.gr g4
        have hG5 := hG3.trans g4
        have hS6 := hS5
        have hT6 := hT5
        obtain ⟨q0, q1, q2, q3⟩ := hS6
        obtain ⟨r0, r1, r2, r3⟩ := hT6
        clear s0 s1 s2 s3 T3 hS3 hG3 g4 cc hT5
        have hG7 := (hG5.setCell (p := ⟨w1.heap.size, 0, none⟩) hB (.int .u64 (hi s))).setCell (p := ⟨w1.heap.size, 1, none⟩) hB (.int .u64 (lo s))
        have hS7 := hS5.set s
        go_wp2
        go_roundw
        case rel => exact ⟨q + 1, by go_num, hqn, by rw [NX.out]; go_num, hG7, by rw [NX.out]; exact hS7⟩
        case measure => simp [intOf]; omega
      · have e : decide (s < pd) = false := decide_eq_false hlt
        rw [if_neg hlt] at NX
        simp only [e] at cc
        clear e hlt
        go_wp2_with fail
        refine c.mono ?_
        rintro e w2 ⟨rfl, g2⟩
        have g3 : Gr w2 (w2.alloc (.cells #[.int .u64 (hi s), .int .u64 (lo s)] 51)) := (Gr.refl _).alloc _ _
        have hS3 := (hS.gr g2).gr g3
        have hG3 := (hG.trans g2).trans g3
        have hS4 := hS3
        obtain ⟨s0, s1, s2, s3⟩ := hS4
        clear hS hG g2 c x0 g3
        go_wp2_with fail
        refine (cc _).mono ?_
        rintro e w3 ⟨rfl, g4⟩
        have hS5 := hS3.gr g4
        have hG5 := hG3.trans g4
        clear s0 s1 s2 s3 hS3 hG3 g4 cc
        go_wp2
        go_roundw
        case rel => exact ⟨q + 1, by go_num, hqn, by rw [NX.out], hG5, by rw [NX.out]; exact hS5⟩
        case measure => simp [intOf]; omega
    · have hqi : ¬ (q : Int) + 1 < (n : Int) := by omega
      have E : Hid (nearP cs x = nearTo cs x q) := by
        unfold Hid nearP; rw [← N.out, show n - 1 = q by omega]
      obtain ⟨p, hp⟩ : ∃ p, p = nearTo cs x q := ⟨_, rfl⟩
      rw [← hp] at hS E ⊢
      clear hp
      obtain ⟨pp, pd⟩ := p
      dsimp only at hS ⊢
      obtain ⟨s0, s1, s2, s3⟩ := hS
      obtain ⟨v0, v1, v2, v3⟩ := hG.var2
      go_wp2
      go_region
      all_goals
        go_wp2
        exact bodyPost_ret (v := .tuple #[.int .i64 (pp : Int), Wd pd]) (by simp [results, Try.results37, go_sem, v0, v1]) rfl ⟨by rw [E.out], ((((Gr.refl _).alloc _ _).trans hG.drew).setCell (by simp) _).setCell (by simp) _⟩

end Go.Proofs.Ytblfmhdcgmkpgaa
