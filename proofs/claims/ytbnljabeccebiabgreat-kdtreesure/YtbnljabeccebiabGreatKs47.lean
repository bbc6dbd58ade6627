import Derived.Test.YtbnljabeccebiabGreatKs44
import Derived.Test.YtbnljabeccebiabGreatKsRNear
import Derived.Test.YtbnljabeccebiabGreatKs10
import Derived.Test.YtbnljabeccebiabGreatKs42
import Derived.Test.YtbnljabeccebiabGreatKs45
import Derived.Test.YtbnljabeccebiabGreatKs40
import Derived.Test.YtbnljabeccebiabGreatKs12
import Derived.BigQuiet
/- The reference's Near: a ball, and neither. -/
namespace Go.Proofs.YtbnljabeccebiabGreat
open Go.RowKit

theorem rmul_int (x y : Int) (n : Nat) (hx : 0 ≤ x) (hy : 0 ≤ y) (hx1 : x < 18446744073709551616) (hy1 : y < 18446744073709551616) (h : x.toNat * y.toNat = n) (w : World) :
    Calls Tryz.prog 56 #[.int .u64 x, .int .u64 y] w fun e w' => e = .returned (Wd n) ∧ Gr w w' := by
  have := rmul_any x.toNat y.toNat (by omega) (by omega) w
  rw [Int.toNat_of_nonneg hx, Int.toNat_of_nonneg hy, h] at this
  exact this

set_option maxHeartbeats 8000000 in
set_option maxRecDepth 100000 in
theorem rnear_ball {w : World} {v u : Value} {r : Reg} {a : List Int} (hv : RdR w v r) (hu : RdI w u a) (h0 : ckB r a = 0) (hR : r.R < 340282366920938463463374607431768211456) (s3 : r.S = 3) :
    Calls Tryz.prog 25 #[v, u] w fun e w' => e = .returned (Wd (bdV r a)) ∧ Gr w w' := by
  obtain ⟨vl, vh, vi, rfl, hL, hH, hI⟩ := hv
  have RA : Hid (RegAt (w.alloc (rc r vl vh vi)) w.heap.size r vl vh vi) := RegAt.new w r vl vh vi
  have G00 : Gr w (w.alloc (rc r vl vh vi)) := (Gr.refl _).alloc _ _
  have G01 : Gr (w.alloc (rc r vl vh vi)) (((w.alloc (rc r vl vh vi)).alloc (.cells #[.int .u64 0, .int .u64 0] 58)).alloc (.cells #[.int .u64 0, .int .u64 0] 58)) := ((Gr.refl _).alloc _ _).alloc _ _
  have G0 := G00.trans G01
  have AA : Hid (At2 (((w.alloc (rc r vl vh vi)).alloc (.cells #[.int .u64 0, .int .u64 0] 58)).alloc (.cells #[.int .u64 0, .int .u64 0] 58)) (w.heap.size + 1) 0 ∧ At2 (((w.alloc (rc r vl vh vi)).alloc (.cells #[.int .u64 0, .int .u64 0] 58)).alloc (.cells #[.int .u64 0, .int .u64 0] 58)) (w.heap.size + 1 + 1) 0) := by
    have h1 := At2.new (w.alloc (rc r vl vh vi)) 0 58
    have h2 := At2.new ((w.alloc (rc r vl vh vi)).alloc (.cells #[.int .u64 0, .int .u64 0] 58)) 0 58
    rw [World.size_alloc] at h1
    rw [World.size_alloc, World.size_alloc] at h2
    exact ⟨h1.gr ((Gr.refl _).alloc _ _), h2⟩
  obtain ⟨k1, k2, k3, k4⟩ := ball_ok h0 s3
  have c1 := far_c (hL.gb G0.gb) (hu.gb G0.gb) k1 k2 k3 k4
  have c2 := fun W => rroot_c (dst r.L a) (dst_lt k3 k4 k1 k2) W
  have c3 := fun W => rroot_c r.R hR W
  have l1 := rt_lt (dst_lt k3 k4 k1 k2)
  have l2 := rt_lt hR
  have E : Hid (bdV r a = if rt (dst r.L a) ≤ rt r.R then 0 else (rt (dst r.L a) - rup r.R) * (rt (dst r.L a) - rup r.R)) := by unfold Hid bdV; rw [if_neg (by omega), if_pos s3]; rfl
  have E2 : Hid (rup r.R = if rt r.R * rt r.R = r.R then rt r.R else rt r.R + 1) := rfl
  generalize bdV r a = res at *
  clear hH hI k1 k2 k3 k4 h0
  obtain ⟨S, L, H, R, I⟩ := r
  dsimp only at *
  subst s3
  obtain ⟨pl, cl, rfl, _⟩ := hL
  obtain ⟨pa, ca, rfl, _⟩ := hu
  generalize L.length = nl at *
  generalize a.length = na at *
  generalize dst L a = D at *
  generalize rt D = s at *
  generalize rup R = t' at *
  generalize rt R = t at *
  obtain ⟨W0, hW0⟩ : ∃ W0, ((w.alloc (rc ⟨3, L, H, R, I⟩ (.slice pl nl cl) vh vi)).alloc (.cells #[.int .u64 0, .int .u64 0] 58)).alloc (.cells #[.int .u64 0, .int .u64 0] 58) = W0 := ⟨_, rfl⟩
  obtain ⟨q0, q1, q2, q3, q4, q5⟩ := RA.out.gb G01.gb
  dsimp only at q0 q1 q2 q3 q4 q5
  rw [hW0] at c1 q0 q1 q2 q3 q4 q5
  have W1 : Hid (Gr (w.alloc (rc ⟨3, L, H, R, I⟩ (.slice pl nl cl) vh vi)) W0) := by unfold Hid; rw [← hW0]; exact G01
  have AA0 : Hid (At2 W0 (w.heap.size + 1) 0 ∧ At2 W0 (w.heap.size + 1 + 1) 0) := by rw [← hW0]; exact AA.out
  have GG : Hid (Gr w W0) := by rw [← hW0]; exact G0
  have SZ : Hid (w.heap.size + 1 + 1 + 1 = W0.heap.size) := by unfold Hid; rw [← hW0]; simp
  clear AA G00 G01 G0
  go_enter Tryz.func25, Tryz.ntmps25
  go_wp2_with fail
  refine c1.mono ?_
  rintro e w1 ⟨rfl, g1⟩
  clear hW0
  go_wp2_with fail
  refine (c2 _).mono ?_
  rintro e w2 ⟨rfl, g2⟩
  replace g2 := g1.trans g2
  clear q0 q1 q2 q3 q4 q5
  obtain ⟨_, _, _, q3, q4, _⟩ := RA.out.gb (W1.out.trans g2).gb
  dsimp only at q3 q4
  go_wp2_with fail
  refine (c3 _).mono ?_
  rintro e w3 ⟨rfl, g3⟩
  replace g3 := g2.trans g3
  clear c1 c2 c3 g1 g2 q3 q4
  obtain ⟨_, _, _, q3, q4, _⟩ := RA.out.gb (W1.out.trans g3).gb
  dsimp only at q3 q4
  have cm := fun W => rmul_any t t l2 l2 W
  by_cases ht : t * t = R
  · have hne := fun W => wd_ne (t * t) R false (by simp [ht]) W
    rw [if_pos ht] at E2
    have e := E2.out
    subst e
    by_cases hst : s ≤ t'
    · rw [if_pos hst] at E
      have e := E.out
      subst e
      have hst' : ¬ (t' : Int) < (s : Int) := by omega
      clear E E2 hst ht
      go_wp2
      go_region_held3 (fun w' => w'.cell? ⟨w.heap.size, 3, none⟩ = some (.int .u64 (hi R)) ∧ w'.cell? ⟨w.heap.size, 4, none⟩ = some (.int .u64 (lo R))) (first | (with_reducible exact call_keeps2 (by assumption) (by assumption)) | exact ⟨q3, q4⟩)
        (first
          | (go_at_call 56; refine (cm _).mono ?_; rintro e w4 ⟨rfl, g4⟩))
      all_goals
        have G4 := g3.drew.trans g4
        obtain ⟨A1, A2⟩ := AA0.out
        replace A1 := A1.gr G4
        replace A2 := A2.gr G4
        obtain ⟨u0, u1, _, _⟩ := A1.set 0
        obtain ⟨r0, r1, r2, r3⟩ := A1
        obtain ⟨s0, s1, _, _⟩ := A2
        go_wp2
        exact bodyPost_ret (v := Wd 0) (by simp [results, Tryz.results25, go_sem, u0, u1]) rfl ⟨rfl, ((GG.out.trans G4).setCell (by simp) _).setCell (by simp) _⟩
    · rw [if_neg hst] at E
      have hst' : (t' : Int) < (s : Int) := by omega
      have cs := fun W => rmul_int ((s : Int) - (t' : Int)) ((s : Int) - (t' : Int)) res (by omega) (by omega) (by omega) (by omega) (by rw [E.out]; congr 1 <;> omega) W
      have b1 : 0 ≤ (s : Int) - (t' : Int) := by omega
      have b2 : (s : Int) - (t' : Int) < 18446744073709551616 := by omega
      clear E E2 hst ht
      go_wp2
      go_region_held3 (fun w' => w'.cell? ⟨w.heap.size, 3, none⟩ = some (.int .u64 (hi R)) ∧ w'.cell? ⟨w.heap.size, 4, none⟩ = some (.int .u64 (lo R))) (first | (with_reducible exact call_keeps2 (by assumption) (by assumption)) | exact ⟨q3, q4⟩)
        (first
          | (go_at_call 56; refine (cm _).mono ?_; rintro e w4 ⟨rfl, g4⟩))
      all_goals
        have G4 := g3.drew.trans g4
        go_wp2_with fail
        refine (cs _).mono ?_
        rintro e w5 ⟨rfl, g5⟩
        have G5 := G4.trans g5
        obtain ⟨A1, A2⟩ := AA0.out
        replace A1 := A1.gr G5
        replace A2 := A2.gr G5
        have A3 := A2.set res
        obtain ⟨s0, s1, s2, s3⟩ := A2
        obtain ⟨v0, v1, _, _⟩ := A3
        have A4 : At2 ((w5.setCell ⟨w.heap.size + 1 + 1, 0, none⟩ (.int .u64 (hi res))).setCell ⟨w.heap.size + 1 + 1, 1, none⟩ (.int .u64 (lo res))) (w.heap.size + 1) 0 := by
          obtain ⟨r0, r1, r2, r3⟩ := A1
          exact ⟨set2_far' (by simp) r0 _ _, set2_far' (by simp) r1 _ _, by simpa using r2, by simpa using r3⟩
        have GX : Gr w ((w5.setCell ⟨w.heap.size + 1 + 1, 0, none⟩ (.int .u64 (hi res))).setCell ⟨w.heap.size + 1 + 1, 1, none⟩ (.int .u64 (lo res))) := ((GG.out.trans G5).setCell (by simp; omega) _).setCell (by simp; omega) _
        obtain ⟨u0, u1, _, _⟩ := A4.set res
        obtain ⟨r0, r1, r2, r3⟩ := A4
        go_wp2
        exact bodyPost_ret (v := Wd res) (by simp [results, Tryz.results25, go_sem, u0, u1]) rfl ⟨rfl, (GX.setCell (by simp) _).setCell (by simp) _⟩
  · have hne := fun W => wd_ne (t * t) R true (by simp [ht]) W
    rw [if_neg ht] at E2
    by_cases hst : s ≤ t
    · rw [if_pos hst] at E
      have e := E.out
      subst e
      have hst' : (s : Int) ≤ (t : Int) := by omega
      clear E E2 hst ht
      go_wp2
      go_region_held3 (fun w' => w'.cell? ⟨w.heap.size, 3, none⟩ = some (.int .u64 (hi R)) ∧ w'.cell? ⟨w.heap.size, 4, none⟩ = some (.int .u64 (lo R))) (first | (with_reducible exact call_keeps2 (by assumption) (by assumption)) | exact ⟨q3, q4⟩)
        (first
          | (go_at_call 56; refine (cm _).mono ?_; rintro e w4 ⟨rfl, g4⟩))
      all_goals
        have G4 := g3.drew.trans g4
        obtain ⟨A1, A2⟩ := AA0.out
        replace A1 := A1.gr G4
        replace A2 := A2.gr G4
        obtain ⟨u0, u1, _, _⟩ := A1.set 0
        obtain ⟨r0, r1, r2, r3⟩ := A1
        obtain ⟨s0, s1, _, _⟩ := A2
        go_wp2
        exact bodyPost_ret (v := Wd 0) (by simp [results, Tryz.results25, go_sem, u0, u1]) rfl ⟨rfl, ((GG.out.trans G4).setCell (by simp) _).setCell (by simp) _⟩
    · rw [if_neg hst] at E
      have hst' : ¬ (s : Int) ≤ (t : Int) := by omega
      have T1 : Hid ((t : Int) + 1 = (t' : Int)) := by unfold Hid; have := E2.out; omega
      have hT : t' = t + 1 := E2.out
      by_cases hs2 : s ≤ t'
      · have e : res = 0 := by rw [E.out, show s - t' = 0 by omega]
        subst e
        have H2 : Hid (¬ (t' : Int) < (s : Int)) := by unfold Hid; omega
        clear E E2 hst ht hs2 hT
        go_wp2
        go_region_held3 (fun w' => w'.cell? ⟨w.heap.size, 3, none⟩ = some (.int .u64 (hi R)) ∧ w'.cell? ⟨w.heap.size, 4, none⟩ = some (.int .u64 (lo R))) (first | (with_reducible exact call_keeps2 (by assumption) (by assumption)) | exact ⟨q3, q4⟩)
          (first
            | (go_at_call 56; refine (cm _).mono ?_; rintro e w4 ⟨rfl, g4⟩))
        all_goals
          have T2 := T1.out
          have h2 := H2.out
          have G4 := g3.drew.trans g4
          obtain ⟨A1, A2⟩ := AA0.out
          replace A1 := A1.gr G4
          replace A2 := A2.gr G4
          obtain ⟨u0, u1, _, _⟩ := A1.set 0
          obtain ⟨r0, r1, r2, r3⟩ := A1
          obtain ⟨s0, s1, _, _⟩ := A2
          go_wp2
          exact bodyPost_ret (v := Wd 0) (by simp [results, Tryz.results25, go_sem, u0, u1]) rfl ⟨rfl, ((GG.out.trans G4).setCell (by simp) _).setCell (by simp) _⟩
      · have cs := fun W => rmul_int ((s : Int) - (t' : Int)) ((s : Int) - (t' : Int)) res (by omega) (by omega) (by omega) (by omega) (by rw [E.out]; congr 1 <;> omega) W
        have H2 : Hid ((t' : Int) < (s : Int) ∧ 0 ≤ (s : Int) - (t' : Int) ∧ (s : Int) - (t' : Int) < 18446744073709551616) := ⟨by omega, by omega, by omega⟩
        clear E E2 hst ht hs2 hT
        go_wp2
        go_region_held3 (fun w' => w'.cell? ⟨w.heap.size, 3, none⟩ = some (.int .u64 (hi R)) ∧ w'.cell? ⟨w.heap.size, 4, none⟩ = some (.int .u64 (lo R))) (first | (with_reducible exact call_keeps2 (by assumption) (by assumption)) | exact ⟨q3, q4⟩)
          (first
            | (go_at_call 56; refine (cm _).mono ?_; rintro e w4 ⟨rfl, g4⟩))
        all_goals
          have G4 := g3.drew.trans g4
          have T2 := T1.out
          obtain ⟨h2, b1, b2⟩ := H2.out
          go_wp2_with fail
          refine (cs _).mono ?_
          rintro e w5 ⟨rfl, g5⟩
          have G5 := G4.trans g5
          obtain ⟨A1, A2⟩ := AA0.out
          replace A1 := A1.gr G5
          replace A2 := A2.gr G5
          have A3 := A2.set res
          obtain ⟨s0, s1, s2, s3⟩ := A2
          obtain ⟨v0, v1, _, _⟩ := A3
          have A4 : At2 ((w5.setCell ⟨w.heap.size + 1 + 1, 0, none⟩ (.int .u64 (hi res))).setCell ⟨w.heap.size + 1 + 1, 1, none⟩ (.int .u64 (lo res))) (w.heap.size + 1) 0 := by
            obtain ⟨r0, r1, r2, r3⟩ := A1
            exact ⟨set2_far' (by simp) r0 _ _, set2_far' (by simp) r1 _ _, by simpa using r2, by simpa using r3⟩
          have GX : Gr w ((w5.setCell ⟨w.heap.size + 1 + 1, 0, none⟩ (.int .u64 (hi res))).setCell ⟨w.heap.size + 1 + 1, 1, none⟩ (.int .u64 (lo res))) := ((GG.out.trans G5).setCell (by simp; omega) _).setCell (by simp; omega) _
          obtain ⟨u0, u1, _, _⟩ := A4.set res
          obtain ⟨r0, r1, r2, r3⟩ := A4
          go_wp2
          exact bodyPost_ret (v := Wd res) (by simp [results, Tryz.results25, go_sem, u0, u1]) rfl ⟨rfl, (GX.setCell (by simp) _).setCell (by simp) _⟩

set_option maxHeartbeats 4000000 in
theorem rnear_all {w : World} {v u : Value} {r : Reg} {a : List Int} (hv : RdR w v r) (hu : RdI w u a) (s2 : ¬ r.S = 2) (s3 : ¬ r.S = 3) :
    Calls Tryz.prog 25 #[v, u] w fun e w' => e = .returned (Wd (bdV r a)) ∧ Gr w w' := by
  obtain ⟨vl, vh, vi, rfl, hL, hH, hI⟩ := hv
  have G0 : Gr w (((w.alloc (rc r vl vh vi)).alloc (.cells #[.int .u64 0, .int .u64 0] 58)).alloc (.cells #[.int .u64 0, .int .u64 0] 58)) := (((Gr.refl _).alloc _ _).alloc _ _).alloc _ _
  have e : bdV r a = 0 := by unfold bdV; rw [if_neg s2, if_neg s3]
  rw [e]
  have s2' : (r.S == 2) = false := by rw [beq_eq_false_iff_ne]; exact s2
  have s3' : (r.S == 3) = false := by rw [beq_eq_false_iff_ne]; exact s3
  obtain ⟨pa, ca, rfl, _⟩ := hu
  clear hL hH hI e s2 s3
  obtain ⟨S, L, H, R, I⟩ := r
  dsimp only at *
  generalize a.length = na at *
  go_enter Tryz.func25, Tryz.ntmps25
  go_wp2
  exact bodyPost_ret (v := Wd 0) (by simp [results, Tryz.results25, go_sem, hi, lo]) rfl ⟨rfl, G0⟩

end Go.Proofs.YtbnljabeccebiabGreat

/- The reference's Near and Bound. -/
namespace Go.Proofs.YtbnljabeccebiabGreat
open Go.RowKit

theorem rnear_c {w : World} {v u : Value} {r : Reg} {a : List Int} (hv : RdR w v r) (hu : RdI w u a) (h0 : ckB r a = 0) (hR : r.R < 340282366920938463463374607431768211456) :
    Calls Tryz.prog 25 #[v, u] w fun e w' => e = .returned (Wd (bdV r a)) ∧ Gr w w' := by
  by_cases s2 : r.S = 2
  · exact rnear_box hv hu h0 s2
  by_cases s3 : r.S = 3
  · exact rnear_ball hv hu h0 hR s3
  · exact rnear_all hv hu s2 s3

end Go.Proofs.YtbnljabeccebiabGreat

/- The reference's Ids and Rows. -/
namespace Go.Proofs.YtbnljabeccebiabGreat
open Go.RowKit Go.Sort Go.Maps

theorem contains_take {l : List Int} {x : Int} {q : Nat} (hq : q ≤ l.length) : (l.take q).contains x = true ↔ ∃ k, k < q ∧ l[k]! = x := by
  rw [List.contains_iff_mem, List.mem_iff_getElem]
  constructor
  · rintro ⟨k, hk, e⟩
    have h1 : k < q := by rw [List.length_take] at hk; omega
    refine ⟨k, h1, ?_⟩
    rw [getElem!_pos l k (by omega), ← e]; simp
  · rintro ⟨k, hk, e⟩
    refine ⟨k, by rw [List.length_take]; omega, ?_⟩
    rw [getElem!_pos l k (by omega)] at e
    rw [← e]; simp

end Go.Proofs.YtbnljabeccebiabGreat

/- The law's examples. -/
namespace Go.Proofs.YtbnljabeccebiabGreat
open Go.RowKit Go.Shelf Go.Sort Go.Lib
attribute [local go_sem] Oper.semAt_some

/-- The chapter's rows. -/
def R4 : List Rw := [(1, [0, 0]), (2, [3, 4]), (3, [0, 1]), (4, [3, 4])]
theorem rdi2 {W : World} {b : Nat} {x y : Int} (h : W.heap[b]? = some (.cells #[.int .i64 x, .int .i64 y] 3 (0, 0))) : RdI W (.slice (some ⟨b, 0, none⟩) 2 2) [x, y] := by
  refine ⟨_, _, rfl, fun i hi => ⟨b, 0, rfl, ?_⟩⟩
  rcases i with _ | _ | i
  · simp [World.cell?, h]
  · simp [World.cell?, h]
  · simp only [List.length_cons, List.length_nil] at hi; omega
theorem hits4 : hitsOf [0, 0] R4 = [(1, 0, 0), (2, 0, 25), (3, 0, 1), (4, 0, 25)] := by decide
theorem srt4 : Tk.srt (hitsOf [0, 0] R4) = [(1, 0, 0), (3, 0, 1), (2, 0, 25), (4, 0, 25)] := by
  rw [hits4]
  exact Tk.srt_of_perm (by unfold Tk.Srtd; decide) (by decide)
theorem near4 : Tk.srt (nearL 0 1 [0, 0] R4) = [(1, 0, 0), (3, 0, 1)] := by
  have e : nearL 0 1 [0, 0] R4 = [(1, 0, 0), (3, 0, 1)] := by decide
  rw [e]
  exact Tk.srt_of_srtd (by unfold Tk.Srtd; decide)
theorem topE4 (k : Int) (h1 : 1 ≤ k) (h2 : k ≤ 64) : topE R4 [0, 0] k = 0 := by
  rw [topE_zero]; exact ⟨by decide, h1, h2⟩
theorem ask4 : askE R4 [0, 0] = 0 := by decide
theorem wf4 : Wf R4 := ⟨by decide, by decide⟩
theorem top4 : topE R4 [0, 0] 0 = 1 := by decide

theorem rd_take {w : World} {b n cap c : Nat} {l : List Tk.Ht} (h : Tk.Lies w b 0 l) (hn : l.length = n) (hc : c ≤ n) : Tk.Rd w (.slice (some ⟨b, 0, none⟩) c cap) (l.take c) := by
  have hl : (l.take c).length = c := by rw [List.length_take]; omega
  refine .inr (.inr ⟨b, 0, cap, by rw [hl], fun i hi => ?_⟩)
  rw [hl] at hi
  rw [getElem!_pos (l.take c) i (by omega), List.getElem_take, ← getElem!_pos l i (by omega)]
  exact h i (by omega)
theorem own_sl {w : World} {v : Value} {l : List Tk.Ht} (h : Tk.Own w v l.toArray) (h0 : 0 < l.length) : ∃ g cap, v = .slice (some ⟨g, 0, none⟩) l.length cap ∧ l.length ≤ cap ∧ Tk.Lies w g 0 l := by
  obtain ⟨g, cap, cur, e, hh, hc, _⟩ := Tk.own_form h (by simpa using h0)
  subst e
  exact ⟨g, cap, by simp, by simpa using hc, by simpa using Tk.own_lies h⟩
theorem lies3 {W : World} {b : Nat} {a1 a2 a3 c1 c2 c3 d1 d2 d3 : Int} (h : W.heap[b]? = some (.cells #[.int .i64 a1, .int .u64 a2, .int .u64 a3, .int .i64 c1, .int .u64 c2, .int .u64 c3, .int .i64 d1, .int .u64 d2, .int .u64 d3] 60 (0, 0))) : Tk.Rd W (.slice (some ⟨b, 0, none⟩) 3 3) [(a1, a2, a3), (c1, c2, c3), (d1, d2, d3)] := by
  refine .inr (.inr ⟨b, 0, 3, rfl, fun i hi => ?_⟩)
  simp only [List.length_cons, List.length_nil] at hi
  rcases i with _ | _ | _ | i
  · refine ⟨?_, ?_, ?_⟩ <;> simp [World.cell?, h]
  · refine ⟨?_, ?_, ?_⟩ <;> simp [World.cell?, h]
  · refine ⟨?_, ?_, ?_⟩ <;> simp [World.cell?, h]
  · omega
theorem first3 : Tk.firsts 3 (hitsOf [0, 0] R4) = [(1, 0, 0), (3, 0, 1), (2, 0, 25)] := by unfold Tk.firsts; rw [srt4]; rfl
theorem first1 : Tk.firsts 1 (hitsOf [0, 0] R4) = [(1, 0, 0)] := by unfold Tk.firsts; rw [srt4]; rfl

end Go.Proofs.YtbnljabeccebiabGreat

/- The reference's Check, Asked, Range. -/
namespace Go.Proofs.YtbnljabeccebiabGreat
open Go.RowKit Go.Sort Go.Maps

/-- Those within a radius stand first. -/
theorem filter_pre {p : Tk.Ht → Bool} (hp : ∀ y z, Tk.hlt z y = false → p z = true → p y = true) : ∀ (L : List Tk.Ht) (k : Nat), Tk.Srtd L → k ≤ L.length → (∀ t, t < k → p L[t]! = true) → (k < L.length → p L[k]! = false) → L.filter p = L.take k
  | [], k, _, _, _, _ => by simp
  | y :: L, 0, hS, _, _, h2 => by
    have hy := h2 (by simp)
    simp only [List.getElem!_cons_zero] at hy
    rw [List.take_zero, List.filter_eq_nil_iff]
    intro z hz
    rcases List.mem_cons.1 hz with rfl | hz
    · rw [hy]; simp
    · intro hpz
      have := (List.pairwise_cons.1 hS).1 z hz
      rw [hp y z this hpz] at hy
      cases hy
  | y :: L, k + 1, hS, hk, h1, h2 => by
    have hy := h1 0 (by omega)
    simp only [List.getElem!_cons_zero] at hy
    rw [List.filter_cons_of_pos hy, List.take_succ_cons, filter_pre hp L k (List.pairwise_cons.1 hS).2 (by simpa using hk) (fun t ht => by have := h1 (t + 1) (by omega); simpa using this) (fun hk' => by have := h2 (by simpa using hk'); simpa using this)]
theorem srt_filter (p : Tk.Ht → Bool) (H : List Tk.Ht) : Tk.srt (H.filter p) = (Tk.srt H).filter p :=
  Tk.srt_of_perm ((Tk.srt_srtd H).sublist List.filter_sublist) ((Tk.srt_perm H).symm.filter p)
end Go.Proofs.YtbnljabeccebiabGreat

/- The reference's Range. -/
namespace Go.Proofs.YtbnljabeccebiabGreat
open Go.RowKit Go.Sort Go.Maps

theorem inRad_wd (R d : Nat) (i : Int) : inRad (hi R) (lo R) (i, hi d, lo d) = !decide (R < d) := by
  unfold inRad Tk.cw
  dsimp only
  by_cases h : R < d
  · rw [decide_eq_true h, Bool.not_true, decide_eq_false_iff_not]
    unfold hi lo
    split
    · omega
    · split <;> omega
  · rw [decide_eq_false h, Bool.not_false, decide_eq_true_eq]
    unfold hi lo
    split
    · omega
    · split
      · omega
      · exfalso; omega
theorem inRad_down (rh rl : Int) (y z : Tk.Ht) (h : Tk.hlt z y = false) (hz : inRad rh rl z = true) : inRad rh rl y = true := by
  rw [Tk.hlt_f] at h
  unfold inRad Tk.cw at *
  rw [decide_eq_true_eq] at *
  unfold Tk.Ht.hi Tk.Ht.lo Tk.Ht.id at h
  split at hz
  · split
    · omega
    · split <;> omega
  · split at hz
    · split
      · omega
      · split <;> omega
    · omega
theorem near_take {R : Nat} {q : List Int} {rs : List Rw} {k : Nat} (hk : k ≤ (Tk.srt (hitsOf q rs)).length) (h1 : ∀ t, t < k → inRad (hi R) (lo R) (Tk.srt (hitsOf q rs))[t]! = true) (h2 : k < (Tk.srt (hitsOf q rs)).length → inRad (hi R) (lo R) (Tk.srt (hitsOf q rs))[k]! = false) :
    Tk.srt (nearL (hi R) (lo R) q rs) = (Tk.srt (hitsOf q rs)).take k := by
  unfold nearL
  rw [srt_filter, filter_pre (inRad_down _ _) _ k (Tk.srt_srtd _) hk h1 h2]
theorem four_gr {w0 W w' : World} {p0 p1 q0 q1 : Addr} {v0 v1 u0 u1 : Value} (g : Gr W w') (h : Gb w0 W ∧ W.cell? p0 = some v0 ∧ W.cell? p1 = some v1 ∧ W.cell? q0 = some u0 ∧ W.cell? q1 = some u1) :
    Gb w0 w' ∧ w'.cell? p0 = some v0 ∧ w'.cell? p1 = some v1 ∧ w'.cell? q0 = some u0 ∧ w'.cell? q1 = some u1 :=
  ⟨gb_trans h.1 g.gb, g.keeps h.2.1, g.keeps h.2.2.1, g.keeps h.2.2.2.1, g.keeps h.2.2.2.2⟩

end Go.Proofs.YtbnljabeccebiabGreat

/- The reference's First and TopK. -/
namespace Go.Proofs.YtbnljabeccebiabGreat
open Go.RowKit Go.Sort Go.Maps

end Go.Proofs.YtbnljabeccebiabGreat

/- The reference's Ints and Same. -/
namespace Go.Proofs.YtbnljabeccebiabGreat
open Go.RowKit Go.Sort Go.Maps

theorem wd_same (a b : Int) (W : World) : (binOp .eql 58 (.agg #[.int .u64 a, .int .u64 b]) (.agg #[.int .u64 a, .int .u64 b])).run Tryz.prog W = .ok (.bool true) W := by
  rw [wd_run]; simp
end Go.Proofs.YtbnljabeccebiabGreat

/- The reference's Sound: of an answer that is. -/
namespace Go.Proofs.YtbnljabeccebiabGreat
open Go.RowKit Go.Sort Go.Maps

theorem wrapN {n : Nat} (h : n < 9223372036854775808) : IntKind.i64.wrap (n : Int) = (n : Int) := by
  unfold IntKind.wrap IntKind.signed IntKind.bits
  simp
  omega
/-- The ids of the first p regions. -/
def restTo (a : Ans) (p : Nat) : List Int := (a.rest.take p).flatMap (·.I)
theorem restTo_succ {a : Ans} {p : Nat} (h : p < a.rest.length) : restTo a (p + 1) = restTo a p ++ (a.rest[p]).I := by
  unfold restTo
  rw [List.take_succ_eq_append_getElem h, List.flatMap_append]
  simp
theorem restTo_le {a : Ans} (p : Nat) : (a.seen ++ restTo a p).length ≤ (allIds a).length := by
  have e : a.rest = a.rest.take p ++ a.rest.drop p := (List.take_append_drop p _).symm
  have h : (a.rest.flatMap (·.I)).length = (restTo a p).length + ((a.rest.drop p).flatMap (·.I)).length := by
    conv => lhs; rw [e]
    rw [List.flatMap_append, List.length_append]; rfl
  unfold allIds
  rw [List.length_append, List.length_append, h]
  omega
theorem restTo_all (a : Ans) : a.seen ++ restTo a a.rest.length = allIds a := by unfold restTo allIds; rw [List.take_length]
theorem ids_nd {rs : List Rw} {q : List Int} (h : askE rs q = 0) {i j : Nat} (hi' : i < rs.length) (hj : j < rs.length) (e : rs[i]!.1 = rs[j]!.1) : rs[i]! = rs[j]! := by
  have hp := (askE_zero.1 h).2.ids
  rw [List.pairwise_iff_getElem] at hp
  by_cases hij : i = j
  · rw [hij]
  · exfalso
    have hi2 : i < (idsOf rs).length := by simpa [idsOf] using hi'
    have hj2 : j < (idsOf rs).length := by simpa [idsOf] using hj
    rcases Nat.lt_or_gt_of_ne hij with hlt | hlt
    · exact hp i j hi2 hj2 hlt (by rw [ids_get hi', ids_get hj]; exact e)
    · exact hp j i hj2 hi2 hlt (by rw [ids_get hi', ids_get hj]; exact e.symm)
theorem SoundP.ask {rs srs : List Rw} {q : List Int} {k : Nat} {a : Ans} (h : SoundP rs q k a srs) (hask : askE rs q = 0) : askE srs q = 0 := by
  obtain ⟨h1, h2⟩ := askE_zero.1 hask
  have hl : a.seen.length ≤ rs.length := by
    have := h.all.length_eq
    unfold allIds at this
    rw [List.length_append] at this
    simp only [idsOf, List.length_map] at this
    omega
  have hsl : srs.length = a.seen.length := by rw [← h.ids]; simp [idsOf]
  refine askE_zero.2 ⟨h1, ⟨by have := h2.few; omega, ?_, fun r hr => h2.row r (h.mem r hr)⟩⟩
  rw [h.ids]
  have hp : (allIds a).Pairwise (· ≠ ·) := (List.Perm.pairwise_iff (fun e => Ne.symm e) h.all).2 h2.ids
  unfold allIds at hp
  exact (List.pairwise_append.1 hp).1
theorem snd_row {rs srs : List Rw} {q : List Int} {k : Nat} {a : Ans} (h : SoundP rs q k a srs) (hask : askE rs q = 0) {p i : Nat} (hp : p < a.seen.length) (hi' : i < rs.length) (e : rs[i]!.1 = a.seen[p]!) : p < srs.length ∧ rs[i]! = srs[p]! := by
  have hsl : srs.length = a.seen.length := by rw [← h.ids]; simp [idsOf]
  have hps : p < srs.length := by omega
  have hm := h.mem srs[p]! (by rw [getElem!_pos srs p hps]; exact List.getElem_mem hps)
  obtain ⟨j, hj, e2⟩ := List.mem_iff_getElem.1 hm
  have e3 : rs[j]! = srs[p]! := by rw [getElem!_pos rs j hj]; exact e2
  have e4 : a.seen[p]! = srs[p]!.1 := by
    rw [getElem!_pos a.seen p hp, ← ids_get hps]
    simp only [h.ids]
  exact ⟨hps, (ids_nd hask hi' hj (by rw [e, e4, e3])).trans e3⟩
theorem append_new {w W w1 : World} {v : Value} {rs : List Rw} {o : Obj} {B : Nat} {xs : List Value} (g : Gb w W) (hB : w.heap.size ≤ B) (h1 : W.ownsRow B 49 2 v rs.length xs) (hg : (W.alloc o).grownBy w1 v.ownBlock) : Gb w w1 := by
  refine below_grown (gb_alloc g o) hg (fun k e => ?_) (gb_alloc g o).size
  have := (h1.lt k e).1
  omega

theorem flat_len : ∀ l : List Reg, (∀ r ∈ l, r.I ≠ []) → l.length ≤ (l.flatMap (·.I)).length
  | [], _ => Nat.le_refl _
  | x :: r, h => by
    have h1 := flat_len r fun y hy => h y (List.mem_cons_of_mem _ hy)
    have h2 := List.length_pos_iff.2 (h x (List.mem_cons_self ..))
    rw [List.flatMap_cons, List.length_append, List.length_cons]
    omega
end Go.Proofs.YtbnljabeccebiabGreat
