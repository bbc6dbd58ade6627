/- kmeans.Cost. -/
import Derived.Test.YthgbhlbanepahaaKNear
namespace Go.Proofs.Ythgbhlbanepahaa
open Go.RowKit

/-- What Cost answers. -/
def costE (cs l : Vs) : Int := if cenE cs = 0 then (if l.length ≤ 512 then vecsE l (cs[0]!.length : Int) else 2) else cenE cs
theorem costE_zero {cs l : Vs} : costE cs l = 0 ↔ ((1 ≤ cs.length ∧ cs.length ≤ 64) ∧ VsOk cs (cs[0]!.length : Int)) ∧ l.length ≤ 512 ∧ VsOk l (cs[0]!.length : Int) := by
  unfold costE
  split
  · rename_i h
    split
    · rename_i h2; rw [vecsE_zero]; exact ⟨fun e => ⟨cenE_zero.1 h, h2, e⟩, fun e => e.2.2⟩
    · rename_i h2; exact ⟨fun e => by simp at e, fun e => absurd e.2.1 h2⟩
  · rename_i h; exact ⟨fun e => absurd e h, fun e => absurd (cenE_zero.2 e.1) h⟩

set_option maxHeartbeats 2000000 in
theorem cost_no {w : World} {u v : Value} {cs l : Vs} (hu : RdV w u cs) (hv : RdV w v l) (hz : costE cs l ≠ 0) :
    Calls Try.prog 21 #[u, v] w fun e w' => e = .returned (.tuple #[Wd 0, .int .i64 (costE cs l)]) ∧ Gr w w' := by
  have G0 : Gr w (w.alloc (.cells #[.int .u64 0, .int .u64 0] 45)) := (Gr.refl _).alloc _ _
  have cc := checkCentres_c (hu.gr G0)
  have V : Hid (RdV w v l) := hv
  obtain ⟨a, cap, rfl, ha⟩ := hu
  obtain ⟨pv, cv, rfl, _⟩ := hv
  by_cases h1 : cenE cs = 0
  · obtain ⟨⟨h2, h3⟩, h4⟩ := cenE_zero.1 h1
    rw [h1] at cc
    by_cases h5 : l.length ≤ 512
    · have E : costE cs l = vecsE l (cs[0]!.length : Int) := by unfold costE; rw [if_pos h1, if_pos h5]
      have cv' := checkAll_c (V.out.gr G0) (cs[0]!.length : Int) (by omega)
      obtain ⟨b, o, u0, ea, k1, k2⟩ := ha 0 (by omega)
      subst ea
      rw [Nat.add_zero] at k1
      replace k1 := G0.keeps k1
      obtain ⟨pu, cu, rfl, _⟩ := k2
      rw [E] at hz ⊢
      have h6 : (vecsE l (cs[0]!.length : Int) == 0) = false := by rw [beq_eq_false_iff_ne]; exact hz
      clear ha V E h4 h1
      generalize vecsE l (cs[0]!.length : Int) = z at *
      generalize cs.length = n at *
      generalize cs[0]!.length = m at *
      generalize l.length = nx at *
      go_enter Try.func21, Try.ntmps21
      go_wp2_with fail
      refine cc.mono ?_
      rintro e w' ⟨rfl, e2⟩
      subst e2
      go_wp2_with fail
      refine cv'.mono ?_
      rintro e w' ⟨rfl, e2⟩
      subst e2
      go_wp2
      exact bodyPost_ret (v := .tuple #[Wd 0, .int .i64 z]) (by simp [results, Try.results21, go_sem, hi, lo]) rfl ⟨by rfl, by repeat (first | exact G0 | refine Gr.setCell ?_ (by simp) _)⟩
    · have E : costE cs l = 2 := by unfold costE; rw [if_pos h1, if_neg h5]
      rw [E]
      clear ha V E h4 h1 hz
      generalize cs.length = n at *
      generalize l.length = nx at *
      go_enter Try.func21, Try.ntmps21
      go_wp2_with fail
      refine cc.mono ?_
      rintro e w' ⟨rfl, e2⟩
      subst e2
      go_wp2
      exact bodyPost_ret (v := .tuple #[Wd 0, .int .i64 2]) (by simp [results, Try.results21, go_sem, hi, lo]) rfl ⟨by rfl, by repeat (first | exact G0 | refine Gr.setCell ?_ (by simp) _)⟩
  · have E : costE cs l = cenE cs := by unfold costE; rw [if_neg h1]
    have h6 : (cenE cs == 0) = false := by rw [beq_eq_false_iff_ne]; exact h1
    rw [E]
    clear ha V E hz
    generalize cenE cs = z at *
    generalize cs.length = n at *
    generalize l.length = nx at *
    go_enter Try.func21, Try.ntmps21
    go_wp2_with fail
    refine cc.mono ?_
    rintro e w' ⟨rfl, e2⟩
    subst e2
    go_wp2
    exact bodyPost_ret (v := .tuple #[Wd 0, .int .i64 z]) (by simp [results, Try.results21, go_sem, hi, lo]) rfl ⟨by rfl, by repeat (first | exact G0 | refine Gr.setCell ?_ (by simp) _)⟩

set_option maxHeartbeats 4000000 in
set_option maxRecDepth 100000 in
theorem cost_ok {w : World} {u v : Value} {cs l : Vs} (hu : RdV w u cs) (hv : RdV w v l) (hz : costE cs l = 0) :
    Calls Try.prog 21 #[u, v] w fun e w' => e = .returned (.tuple #[Wd (costTo cs l l.length), .int .i64 0]) ∧ Gr w w' := by
  have G0 : Gr w (w.alloc (.cells #[.int .u64 0, .int .u64 0] 45)) := (Gr.refl _).alloc _ _
  have cc := checkCentres_c (hu.gr G0)
  have U : Hid (RdV w u cs) := hu
  have V : Hid (RdV w v l) := hv
  obtain ⟨h1, h5, h6⟩ := costE_zero.1 hz
  have Z : Hid (((1 ≤ cs.length ∧ cs.length ≤ 64) ∧ VsOk cs (cs[0]!.length : Int)) ∧ VsOk l (cs[0]!.length : Int)) := ⟨h1, h6⟩
  have cv' := checkAll_v (V.out.gr G0) (cs[0]!.length : Int) 0 (by omega) (vecsE_zero.2 h6)
  rw [cenE_zero.2 h1] at cc
  obtain ⟨a, cap, rfl, ha⟩ := hu
  obtain ⟨pv, cv, rfl, _⟩ := hv
  obtain ⟨b, o, u0, ea, k1, k2⟩ := ha 0 (by omega)
  subst ea
  rw [Nat.add_zero] at k1
  replace k1 := G0.keeps k1
  obtain ⟨pu, cu, rfl, _⟩ := k2
  obtain ⟨⟨h2, h3⟩, _⟩ := h1
  obtain ⟨n, hN⟩ : ∃ n, n = cs.length := ⟨_, rfl⟩
  obtain ⟨m, hM⟩ : ∃ m, m = l.length := ⟨_, rfl⟩
  have M : Hid (m = l.length) := hM
  rw [← hN] at U cc h2 h3 ⊢
  rw [← hM] at V cv' h5 ⊢
  clear ha hN hM hz h6
  generalize cs[0]!.length = nd at *
  have S0 : At2 ((w.alloc (.cells #[.int .u64 0, .int .u64 0] 45)).alloc (.cells #[.int .u64 0, .int .u64 0] 45)) (w.heap.size + 1) 0 := by
    have := At2.new (w.alloc (.cells #[.int .u64 0, .int .u64 0] 45)) 0 45
    rw [World.size_alloc] at this
    exact this
  have G1 : Gr (w.alloc (.cells #[.int .u64 0, .int .u64 0] 45)) ((w.alloc (.cells #[.int .u64 0, .int .u64 0] 45)).alloc (.cells #[.int .u64 0, .int .u64 0] 45)) := (Gr.refl _).alloc _ _
  go_enter Try.func21, Try.ntmps21
  go_wp2_with fail
  refine cc.mono ?_
  rintro e w' ⟨rfl, e2⟩
  subst e2
  go_wp2_with fail
  refine cv'.mono ?_
  rintro e w' ⟨rfl, e2⟩
  subst e2
  clear cc cv' k1
  go_wp2
  go_loopw [35] (fun iv w' => ∃ q s : Nat, iv = .int .i64 (q : Int) ∧ q ≤ m ∧ Hid (s = costTo cs l q) ∧ Gr (w.alloc (.cells #[.int .u64 0, .int .u64 0] 45)) w' ∧ At2 w' (w.heap.size + 1) s) (fun iv _ => m - (intOf iv).toNat)
  case atStart => exact ⟨0, 0, rfl, Nat.zero_le _, rfl, G1, S0⟩
  case round =>
    clear S0 G1
    obtain ⟨q, s, rfl, hq, X, hG, hS⟩ := hrel
    by_cases hqn : q < m
    · have hqi : (q : Int) < (m : Int) := by omega
      have hql : q < l.length := by have := M.out; omega
      obtain ⟨b1, o1, u1, ea, k1, k2⟩ := cen_at V.out hql
      subst ea
      have G2 : Gr w wr := ((Gr.refl _).alloc _ _).trans hG
      have x0 := G2.keeps k1
      have cn := nearest_c (U.out.gr G2) (k2.gr G2) Z.out.1.2 (Z.out.2 q hql) Z.out.1.1.1 Z.out.1.1.2
      have hd := near_le Z.out.1.2 Z.out.1.1.1 (Z.out.2 q hql)
      have hs := costTo_le Z.out.1.2 Z.out.1.1.1 Z.out.2 q (by omega)
      have NX : Hid (costTo cs l (q + 1) = s + (nearP cs l[q]!).2) := by unfold Hid; rw [X.out]; rfl
      rw [← X.out] at hs
      generalize nearP cs l[q]! = p at *
      obtain ⟨pp, pd⟩ := p
      dsimp only at hd NX cn
      have ca := fun W => add_ok s pd (by omega) W
      obtain ⟨pu1, cu1, rfl, _⟩ := k2
      generalize l[q]!.length = m1 at *
      clear k1 hd hs X
      go_wp2_with fail
      refine cn.mono ?_
      rintro e w2 ⟨rfl, g2⟩
      have g3 : Gr w2 (w2.alloc (.cells #[.int .u64 (hi pd), .int .u64 (lo pd)] 45)) := (Gr.refl _).alloc _ _
      have hS3 := (hS.gr g2).gr g3
      have hG3 := (hG.trans g2).trans g3
      have hS4 := hS3
      obtain ⟨s0, s1, s2, s3⟩ := hS4
      clear hS hG g2 cn x0 g3
      go_wp2_with fail
      refine (ca _).mono ?_
      rintro e w3 ⟨rfl, g4⟩
      have hS5 := hS3.gr g4
      have hG5 := hG3.trans g4
      have hS6 := hS5
      obtain ⟨r0, r1, r2, r3⟩ := hS6
      clear s0 s1 s2 s3 hS3 hG3 g4 ca
      generalize s + pd = t at *
      go_wp2
      go_roundw
      case rel => exact ⟨q + 1, t, by go_num, hqn, NX.out.symm, (hG5.setCell (by simp) _).setCell (by simp) _, hS5.set t⟩
      case measure => simp [intOf]; omega
    · have hqi : ¬ (q : Int) < (m : Int) := by omega
      have E : Hid (s = costTo cs l m) := by
        have h1 := X.out
        have h2 : q = m := by omega
        rw [h2] at h1; exact h1
      obtain ⟨s0, s1, s2, s3⟩ := hS
      obtain ⟨v0, v1, v2, v3⟩ := hG.var2
      go_wp2
      exact bodyPost_ret (v := .tuple #[Wd s, .int .i64 0]) (by simp [results, Try.results21, go_sem, v0, v1]) rfl ⟨by rw [E.out], ((((Gr.refl _).alloc _ _).trans hG).setCell (by simp) _).setCell (by simp) _⟩
theorem cost_c {w : World} {u v : Value} {cs l : Vs} (hu : RdV w u cs) (hv : RdV w v l) :
    Calls Try.prog 21 #[u, v] w fun e w' => e = .returned (.tuple #[Wd (if costE cs l = 0 then costTo cs l l.length else 0), .int .i64 (costE cs l)]) ∧ Gr w w' := by
  by_cases h : costE cs l = 0
  · rw [if_pos h, h]; exact cost_ok hu hv h
  · rw [if_neg h]; exact cost_no hu hv h
end Go.Proofs.Ythgbhlbanepahaa
