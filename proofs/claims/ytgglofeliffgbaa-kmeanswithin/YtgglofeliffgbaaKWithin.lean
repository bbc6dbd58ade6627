/- KmeansWithin: the walk. -/
import Derived.Test.YtgglofeliffgbaaKWithM
import Derived.Test.YtgglofeliffgbaaKAwake
import Derived.Test.YtgglofeliffgbaaKBig
namespace Go.Proofs.Ytgglofeliffgbaa
open Go.RowKit

set_option maxRecDepth 100000 in
set_option maxHeartbeats 4000000 in
theorem within_law {w : World} {v : Value} {l : Vs} (hv : RdV w v l) (k r x : Int) (hx : Rn.U x) :
    Calls Try.prog 5 #[v, .int .i64 k, .int .i64 r, .int .u64 x] w fun e w' => e = .returned (.bool true) ∧ Gb w w' := by
  have cbig := big_c hv
  by_cases hz : trainE l k r = 0
  · have ct := train_ok_c hv x hx hz
    obtain ⟨h1, h2, h3, h4⟩ := trainE_zero.1 hz
    have TO := train_ok hz x r.toNat
    have TC : Hid (costE (roundsV l (drawnV l k.toNat x) r.toNat) l = 0) := train_cost hz x r.toNat
    have hd0 := h4.get (i := 0) (by omega)
    have CN : Hid (¬ k < (l.length : Int) → ¬ 0 < r → costTo (roundsV l (drawnV l k.toNat x) r.toNat) l l.length = 0) := fun e1 e2 => by
      have e3 : k.toNat = l.length := by omega
      have e4 : r.toNat = 0 := by omega
      rw [e3, e4]; exact cost_none (by omega) _ (Nat.le_refl _)
    have TV : trainV l k.toNat r.toNat x = roundsV l (drawnV l k.toNat x) r.toNat := rfl
    rw [TV] at ct
    generalize roundsV l (drawnV l k.toNat x) r.toNat = cs at *
    obtain ⟨K, rfl⟩ : ∃ K : Nat, k = (K : Int) := ⟨k.toNat, by omega⟩
    rw [Int.toNat_natCast] at ct TO
    have V : Hid (RdV w v l) := hv
    have LH : Hid (∀ i, i < K → ∀ t, t < l[0]!.length → loTo l t l.length ≤ cs[i]![t]! ∧ cs[i]![t]! ≤ hiTo l t l.length) := fun i hi t ht => within_lohi TO.1 (by omega) ht
    have CL : Hid (cs.length = K ∧ ∀ i, i < K → cs[i]!.length = l[0]!.length) := ⟨TO.2.2, fun i hi => (TO.1 i (by omega)).1⟩
    have LO : Hid (∀ j, j < l.length → l[j]!.length = l[0]!.length) := fun j hj => by have := h4.get hj; omega
    have DD : Hid (∃ d, d = l[0]!.length) := ⟨_, rfl⟩
    obtain ⟨a, cap, rfl, _⟩ := hv
    obtain ⟨d, hd⟩ : ∃ d, d = l[0]!.length := ⟨_, rfl⟩
    rw [← hd] at ct LH CL LO hd0
    obtain ⟨n, hN⟩ : ∃ n, n = l.length := ⟨_, rfl⟩
    have N : Hid (n = l.length) := hN
    rw [← hN] at cbig ct V LO CN LH h2 h3 ⊢
    clear hz TV TO h4 hN DD hd
    obtain ⟨k1, k2, k3, k4⟩ := h1
    obtain ⟨d1, d2, _⟩ := hd0
    go_enter Try.func5, Try.ntmps5
    go_wp2_with fail
    refine cbig.mono ?_
    rintro e w' ⟨⟨b, rfl, hb⟩, e2⟩
    subst e2
    clear cbig
    cases b with
    | true =>
      go_wp2
      go_ret
      exact ⟨rfl, Below.refl _ _⟩
    | false =>
      clear hb
      go_wp2_with fail
      refine ct.mono ?_
      rintro e w1 ⟨cv, rfl, oC, g1⟩
      have RC : Hid (RdV w1 cv cs) := outC_rd oC CL.out.1 CL.out.2
      obtain ⟨cb, gs, cp, rfl, _⟩ := oC
      have V1 : Hid (RdV w1 (.slice a n cap) l) := V.out.gb g1
      have G1 : Hid (Gb w w1) := g1
      clear ct V g1
      go_wp2
      go_loopw [11] (fun iv W => ∃ q : Nat, iv = .int .i64 (q : Int) ∧ q ≤ K ∧ Gb w1 W) (fun iv _ => K - (intOf iv).toNat)
      case atStart => exact ⟨0, rfl, Nat.zero_le _, Below.refl _ _⟩
      case round =>
        obtain ⟨q, rfl, hq, gW⟩ := hrel
        by_cases hqn : q < K
        · have hqi : decide ((q : Int) < (K : Int)) = true := by rw [decide_eq_true_eq]; omega
          have hqp : (q : Int) < (K : Int) := by omega
          obtain ⟨b1, o1, u1, ea, m1, m2⟩ := cen_at (RC.out.gb gW) (i := q) (by rw [CL.out.1]; exact hqn)
          cases ea
          rw [Nat.zero_add] at m1
          obtain ⟨b2, o2, u2, eb, m3, m4⟩ := cen_at (V1.out.gb gW) (i := 0) (by have := N.out; omega)
          subst eb
          rw [Nat.add_zero] at m3
          have M2 : Hid (RdI wr u1 cs[q]!) := m2
          have M4 : Hid (RdI wr u2 l[0]!) := m4
          obtain ⟨p1, c1, rfl, _⟩ := m2
          obtain ⟨p2, c2, rfl, _⟩ := m4
          rw [CL.out.2 q hqn] at m1 M2
          rw [LO.out 0 (by omega)] at m3 M4
          have GW : Hid (Gb w1 wr) := gW
          clear gW
          go_wp2
          go_quiet (fail)
          have GD : Gb wr (wr.drewN nq) := below_drewN (Below.refl _ _) nq
          replace m1 := gb_keeps GD m1
          replace m3 := gb_keeps GD m3
          have V2 : Hid (RdV (wr.drewN nq) (.slice (some ⟨b2, o2, none⟩) n cap) l) := V1.out.gb (gb_trans GW.out GD)
          have M2' : Hid (RdI (wr.drewN nq) (.slice p1 d c1) cs[q]!) := M2.out.gb GD
          have M4' : Hid (RdI (wr.drewN nq) (.slice p2 d c2) l[0]!) := M4.out.gb GD
          have GW2 : Hid (Gb w1 (wr.drewN nq)) := gb_trans GW.out GD
          have LHq : Hid (∀ t, t < d → loTo l t n ≤ cs[q]![t]! ∧ cs[q]![t]! ≤ hiTo l t n) := LH.out q hqn
          have CLq : Hid (cs[q]!.length = d) := CL.out.2 q hqn
          clear GD GW M2 M4
          generalize wr.drewN nq = W2 at *
          go_wp2
          go_loopw [12] (fun iv W => ∃ t : Nat, iv = .int .i64 (t : Int) ∧ t ≤ d ∧ W2 = W) (fun iv _ => d - (intOf iv).toNat)
          case atStart => exact ⟨0, rfl, Nat.zero_le _, rfl⟩
          case round =>
            obtain ⟨t, rfl, ht, rfl⟩ := hrel
            by_cases htd : t < d
            · have hti : decide ((t : Int) < (d : Int)) = true := by rw [decide_eq_true_eq]; omega
              have htp : (t : Int) < (d : Int) := by omega
              obtain ⟨b3, o3, e2, y1⟩ := rdi_at M2'.out (i := t) (by rw [CLq.out]; exact htd)
              subst e2
              obtain ⟨b4, o4, e4, y2⟩ := rdi_at M4'.out (i := t) (by rw [LO.out 0 (by omega)]; exact htd)
              subst e4
              have LT := LHq.out t htd
              have L0 : Hid (l[0]![t]! = loTo l t 0 ∧ l[0]![t]! = hiTo l t 0) := ⟨rfl, rfl⟩
              have LHT : Hid (loTo l t n ≤ cs[q]![t]! ∧ cs[q]![t]! ≤ hiTo l t n) := LT
              clear LT
              generalize l[0]![t]! = x0 at *
              generalize cs[q]![t]! = y at *
              go_wp2
              go_loopw [13, 14, 15] (fun lo hi iv W => ∃ j : Nat, iv = .int .i64 (j : Int) ∧ j ≤ n ∧ lo = .int .i64 (loTo l t j) ∧ hi = .int .i64 (hiTo l t j) ∧ W2 = W) (fun _ _ iv _ => n - (intOf iv).toNat)
              case atStart => exact ⟨0, rfl, Nat.zero_le _, by rw [L0.out.1], by rw [L0.out.2], rfl⟩
              case round =>
                obtain ⟨j, rfl, hj, rfl, rfl, rfl⟩ := hrel
                by_cases hjn : j < n
                · have hji : (j : Int) < (n : Int) := by omega
                  have hjl : j < l.length := by have := N.out; omega
                  obtain ⟨b5, o5, b6, o6, c6, e5, z1, z2⟩ := coord_at V2.out (j := j) (t := t) hjl (by rw [LO.out j hjn]; exact htd)
                  cases e5
                  rw [LO.out j hjn] at z1
                  have NL : Hid (loTo l t (j + 1) = min (loTo l t j) l[j]![t]! ∧ hiTo l t (j + 1) = max (hiTo l t j) l[j]![t]!) := ⟨rfl, rfl⟩
                  generalize l[j]![t]! = xj at *
                  generalize loTo l t j = lo at *
                  generalize hiTo l t j = hi at *
                  go_wp2
                  exact ⟨⟨j + 1, by go_num, hjn, by rw [NL.out.1], by rw [NL.out.2], trivial⟩, by simp [intOf]; omega⟩
                · have hji : ¬ (j : Int) < (n : Int) := by omega
                  have hjn' : j = n := by omega
                  subst hjn'
                  obtain ⟨q1, q2⟩ := LHT.out
                  generalize loTo l t j = lo at *
                  generalize hiTo l t j = hi at *
                  have q3 : ¬ y < lo := by omega
                  have q4 : ¬ hi < y := by omega
                  clear q1 q2 hqi hti LHT LHq LH
                  go_wp2
                  exact ⟨⟨t + 1, by go_num, htd, trivial⟩, by simp [intOf]; omega⟩
            · have hti : ¬ (t : Int) < (d : Int) := by omega
              clear hqi LHq LH
              go_wp2
              exact ⟨⟨q + 1, by go_num, hqn, GW2.out⟩, by simp [intOf]; omega⟩
        · have hqi : ¬ (q : Int) < (K : Int) := by omega
          have hqk : q = K := by omega
          subst hqk
          have cc := cost_ok (RC.out.gb gW) (V1.out.gb gW) TC.out
          rw [← N.out] at cc
          have GW : Hid (Gb w wr) := gb_trans G1.out gW
          by_cases hA : (q : Int) < (n : Int) ∨ 0 < r
          · generalize costTo cs l n = cz at *
            clear CN RC V1 LH LO gW G1
            go_wp2_with fail
            refine cc.mono ?_
            rintro e w2 ⟨rfl, g2⟩
            have G2 : Hid (Gb w (w2.alloc (.cells #[.int .u64 (hi cz), .int .u64 (lo cz)] 34))) := gb_alloc (gb_trans GW.out g2.gb) _
            clear cc g2 GW
            by_cases hA1 : (q : Int) < (n : Int)
            · clear hA
              go_wp2_with (go_at_call 14; refine (awake_c _).mono ?_; rintro e w5 ⟨rfl, g5⟩)
              go_ret
              exact ⟨rfl, gb_trans G2.out g5⟩
            · have hA2 : 0 < r := by omega
              clear hA
              go_wp2_with (go_at_call 14; refine (awake_c _).mono ?_; rintro e w5 ⟨rfl, g5⟩)
              go_ret
              exact ⟨rfl, gb_trans G2.out g5⟩
          · have hA1 : ¬ (q : Int) < (n : Int) := by omega
            have hA2 : ¬ 0 < r := by omega
            have hC := CN.out (by omega) (by omega)
            rw [hC, show Wd 0 = .agg #[.int .u64 0, .int .u64 0] from rfl] at cc
            clear CN RC V1 LH LO gW G1 hA hC
            go_wp2_with fail
            refine cc.mono ?_
            rintro e w2 ⟨rfl, g2⟩
            have G2 : Hid (Gb w (w2.alloc (.cells #[.int .u64 0, .int .u64 0] 34))) := gb_alloc (gb_trans GW.out g2.gb) _
            have s0 : (w2.alloc (.cells #[.int .u64 0, .int .u64 0] 34)).cell? ⟨w2.heap.size, 0, none⟩ = some (.int .u64 0) := by simp [go_sem]
            have s1 : (w2.alloc (.cells #[.int .u64 0, .int .u64 0] 34)).cell? ⟨w2.heap.size, 1, none⟩ = some (.int .u64 0) := by simp [go_sem]
            have ha := wd_same 0 0
            clear cc g2 GW
            go_wp2_with (go_at_call 14; refine (awake_c _).mono ?_; rintro e w5 ⟨rfl, g5⟩; have s0 := gb_keeps g5 s0; have s1 := gb_keeps g5 s1)
            go_ret
            exact ⟨rfl, gb_trans G2.out g5⟩
  · have ct := train_no_c hv k r x hz
    have hz' : (trainE l k r == 0) = false := by rw [beq_eq_false_iff_ne]; exact hz
    obtain ⟨a, cap, rfl, _⟩ := hv
    generalize trainE l k r = z at *
    generalize l.length = n at *
    go_enter Try.func5, Try.ntmps5
    go_wp2_with fail
    refine cbig.mono ?_
    rintro e w' ⟨⟨b, rfl, hb⟩, e2⟩
    subst e2
    clear cbig
    cases b with
    | true =>
      go_wp2
      go_ret
      exact ⟨rfl, Below.refl _ _⟩
    | false =>
      clear hb
      go_wp2_with fail
      refine ct.mono ?_
      rintro e w1 ⟨rfl, e2⟩
      subst e2
      clear ct
      go_wp2_with (go_at_call 14; refine (awake_c _).mono ?_; rintro e w5 ⟨rfl, g5⟩)
      go_ret
      exact ⟨rfl, g5⟩
end Go.Proofs.Ytgglofeliffgbaa
