/- DiskRuns: the walk. -/
import Derived.Test.YtkagnoinifffdaaRxDkRz1
namespace Go.Proofs.Ytkagnoinifffdaa
open Go.RowKit Go.Lib Go.Maps

variable {w w0 w1 w2 W W' W2 X : World} {b p b' p' b1 p1 : Nat} {q q1 q' : Dq} {F G B F2 G2 B2 H : Nat → Prop}
/-- What the loop keeps: so many calls were done. -/
def LvK (w : World) (r : Int) (ops : List OpP) (k : Nat) (b p b' p' : Nat) (W : World) : Prop := LvR w W b p b' p' (plT (nwQ r) ops k)
set_option maxHeartbeats 8000000 in
set_option maxRecDepth 100000 in
theorem runs_law (w : World) (r : Int) {v : Value} {ops : List OpP} (hs : RdS w v ops) (hr : ∀ i, i < ops.length → OpR ops[i]!) :
    Calls Try.prog 4 #[.int .i64 r, v] w fun e w' => e = .returned (.bool true) ∧ Gb w w' := by
  have cL := large2_c hs
  have HS : Hid (RdS w v ops ∧ ∀ i, i < ops.length → OpR ops[i]!) := ⟨hs, hr⟩
  obtain ⟨a, cap, rfl, _⟩ := id hs
  clear hr hs
  go_enter Try.func4, Try.ntmps4
  go_wp2_with fail
  refine cL.mono ?_
  rintro e w1 ⟨bl, rfl, hbl, g1⟩
  clear cL
  have AW : Hid (Calls Try.prog 9 #[] w1 fun e w' => e = .returned (.bool true) ∧ Hid (Gb w w')) := (awake_c w1).mono fun e w' h => ⟨h.1, gb_trans g1 h.2⟩
  cases bl with
  | true =>
    clear HS hbl
    go_wp2_with fail
    refine AW.out.mono ?_
    rintro e w2 ⟨rfl, g2⟩
    go_wp2
    go_ret
    exact ⟨rfl, g2.out⟩
  | false =>
  by_cases r1 : r < 1
  · clear HS hbl
    go_wp2_with fail
    refine AW.out.mono ?_
    rintro e w2 ⟨rfl, g2⟩
    go_wp2
    go_ret
    exact ⟨rfl, g2.out⟩
  by_cases r2 : 4194304 < r
  · clear HS hbl
    go_wp2_with fail
    refine AW.out.mono ?_
    rintro e w2 ⟨rfl, g2⟩
    go_wp2
    go_ret
    exact ⟨rfl, g2.out⟩
  have hroom : 1 ≤ r ∧ r ≤ 4194304 := by omega
  have LG : Hid (LgG ops ops.length) := hbl rfl
  have cN1 := new_c r hroom w1
  have RM : Hid (1 ≤ r ∧ r ≤ 4194304) := hroom
  have G1 : Hid (Gb w w1) := g1
  clear g1 hbl hroom AW
  go_wp2_with fail
  refine cN1.mono ?_
  rintro e w2 ⟨b, rfl, N1⟩
  have N1 : Hid (NwOut w1 w2 b r) := N1
  clear cN1
  go_wp2_with fail
  refine (rnew_c r w2).mono ?_
  rintro e w3 ⟨rfl, N2⟩
  have ST : Hid (LvK w r ops 0 b w2.heap.size b w2.heap.size w3) := LvR.new RM.out G1.out N1.out N2.out.1 N2.out.2
  obtain ⟨N, hN⟩ : ∃ N, N = ops.length := ⟨_, rfl⟩
  have NN : Hid (N = ops.length) := hN
  have NB : Hid (N ≤ 1000) := by have := LG.out.1; unfold Hid; omega
  rw [← hN]
  generalize w2.heap.size = p at *
  have hN9 : N ≤ 1000 := NB.out
  clear N1 N2 G1 hN
  go_wp2
  go_loopw [5, 7, 8, 9, 10] (fun dv rv ev kv iv W => ∃ b p b' p' k : Nat, dv = .pointer (some ⟨b, 0, none⟩) ∧ rv = .pointer (some ⟨p, 0, none⟩) ∧ ev = .pointer (some ⟨b', 0, none⟩) ∧ kv = .pointer (some ⟨p', 0, none⟩) ∧ iv = .int .i64 (k : Int) ∧ k ≤ N ∧ Hid (LvK w r ops k b p b' p' W)) (fun _ _ _ _ iv _ => N - (intOf iv).toNat)
  case atStart => exact ⟨_, _, _, _, 0, rfl, rfl, rfl, rfl, rfl, Nat.zero_le _, ST.out⟩
  case round =>
    clear ST
    obtain ⟨b, p, b', p', k, rfl, rfl, rfl, rfl, rfl, hk, X⟩ := hrel
    by_cases hkn : k < N
    · have hki : (k : Int) < (N : Int) := by omega
      have hko : k < ops.length := by have := NN.out; omega
      obtain ⟨a', cap', ea, hat⟩ := HS.out.1
      obtain ⟨g, o, vb, vc, e2, ⟨c0, c1, c2, c3, c4, c5⟩, hY, hI⟩ := hat k hko
      injection ea with ea1 ea2 ea3
      subst ea1
      subst ea3
      subst e2
      clear ea2 hat
      obtain ⟨⟨ya, yb, evb, _⟩, _⟩ := id hY
      obtain ⟨ca, cb, evc, _⟩ := id hI
      subst evb
      subst evc
      have gw : Gb w wr := X.out.base
      have hst : (plT (nwQ r) ops k).st < 9000 := by
        have := plT_st (nwQ r) ops k
        have e : (nwQ r).st = 0 := rfl
        have := NB.out
        omega
      have hst1 : (plT (nwQ r) ops (k + 1)).st < 9000 := by
        have := plT_st (nwQ r) ops (k + 1)
        have e : (nwQ r).st = 0 := rfl
        have := NB.out
        omega
      have hop := HS.out.2 k hko
      obtain ⟨hos, hcl⟩ := LG.out.2 k hko
      have CL := X.out.clone hst
      have SP : Hid (∀ V b p b' p', LvK w r ops k b p b' p' V → (V.cell? ⟨g, o + k * 6, none⟩ = some (.int .i64 ops[k]!.1) ∧ V.cell? ⟨g, o + k * 6 + 1, none⟩ = some (.string (sb ops[k]!.2.1)) ∧ V.cell? ⟨g, o + k * 6 + 2, none⟩ = some (.string (sb ops[k]!.2.2.1)) ∧ V.cell? ⟨g, o + k * 6 + 3, none⟩ = some (.slice ya ops[k]!.2.2.2.1.length yb) ∧ V.cell? ⟨g, o + k * 6 + 4, none⟩ = some (.int .i64 ops[k]!.2.2.2.2.1) ∧ V.cell? ⟨g, o + k * 6 + 5, none⟩ = some (.slice ca ops[k]!.2.2.2.2.2.length cb) ∧ g < V.heap.size) ∧
          Calls Try.prog 15 #[.pointer (some ⟨b, 0, none⟩), .pointer (some ⟨p, 0, none⟩), .agg #[.int .i64 ops[k]!.1, .string (sb ops[k]!.2.1), .string (sb ops[k]!.2.2.1), .slice ya ops[k]!.2.2.2.1.length yb, .int .i64 ops[k]!.2.2.2.2.1, .slice ca ops[k]!.2.2.2.2.2.length cb]] V fun e w' => e = .returned (.bool true) ∧
            Hid (Calls Try.prog 10 #[.pointer (some ⟨b, 0, none⟩), .pointer (some ⟨p, 0, none⟩)] w' fun e w' => e = .returned (.bool true) ∧ Hid (LvK w r ops (k + 1) b p b' p' w'))) := fun V b p b' p' L => by
        have gV : Gb w V := LvR.base L
        have d0 := gb_keeps gV c0
        refine ⟨⟨d0, gb_keeps gV c1, gb_keeps gV c2, gb_keeps gV c3, gb_keeps gV c4, gb_keeps gV c5, cell_lt d0⟩, ?_⟩
        refine (LvR.step L hst hop hos hcl hY hI).mono ?_
        rintro e V1 ⟨rfl, L1⟩
        rw [← plT_succ (nwQ r) hko] at L1
        refine ⟨rfl, (LvR.same L1.out (by omega)).mono ?_⟩
        rintro e V2 ⟨rfl, L2⟩
        exact ⟨rfl, L2⟩
      have c0 := gb_keeps gw c0
      have hgw := cell_lt c0
      by_cases k10 : ops[k]!.1 = 10
      · clear hop hos hcl hY hI gw hst hst1 HS LG c1 c2 c3 c4 c5
        rw [k10] at c0 SP
        generalize sb ops[k]!.2.1 = s1 at *
        generalize sb ops[k]!.2.2.1 = s2 at *
        generalize ops[k]!.2.2.2.1.length = lb at *
        generalize ops[k]!.2.2.2.2.2.length = lc at *
        generalize ops[k]!.2.2.2.2.1 = nn at *
        clear X k10
        go_wp2_with fail
        refine CL.mono ?_
        rintro e V1 ⟨b1, rfl, CR⟩
        clear CL
        go_wp2_with fail
        refine CR.out.mono ?_
        rintro e V2 ⟨p1, rfl, L2⟩
        obtain ⟨⟨d0, d1, d2, d3, d4, d5, dg⟩, cS⟩ := SP.out V2 _ _ _ _ L2.out
        clear CR L2 SP c0 hgw
        go_wp2_with fail
        refine cS.mono ?_
        rintro e V3 ⟨rfl, cT⟩
        clear cS
        go_wp2_with fail
        refine cT.out.mono ?_
        rintro e V4 ⟨rfl, L4⟩
        go_wp2
        go_roundw
        case rel => exact ⟨_, _, _, _, k + 1, rfl, rfl, rfl, rfl, by simp, hkn, L4.out⟩
        case measure => simp [intOf]; omega
      · have j10 : (ops[k]!.1 == 10) = false := by rw [beq_eq_false_iff_ne]; exact k10
        obtain ⟨⟨d0, d1, d2, d3, d4, d5, dg⟩, cS⟩ := SP.out _ _ _ _ _ X.out
        clear hop hos hcl hY hI gw hst hst1 HS LG c0 c1 c2 c3 c4 c5 CL SP hgw X k10
        generalize sb ops[k]!.2.1 = s1 at *
        generalize sb ops[k]!.2.2.1 = s2 at *
        generalize ops[k]!.2.2.2.1.length = lb at *
        generalize ops[k]!.2.2.2.2.2.length = lc at *
        generalize ops[k]!.1 = kd at *
        generalize ops[k]!.2.2.2.2.1 = nn at *
        go_wp2_with fail
        refine cS.mono ?_
        rintro e V3 ⟨rfl, cT⟩
        clear cS
        go_wp2_with fail
        refine cT.out.mono ?_
        rintro e V4 ⟨rfl, L4⟩
        go_wp2
        go_roundw
        case rel => exact ⟨_, _, _, _, k + 1, rfl, rfl, rfl, rfl, by simp, hkn, L4.out⟩
        case measure => simp [intOf]; omega
    · have e : k = N := by omega
      subst e
      have hki : ¬ (k : Int) < (k : Int) := by omega
      have hst : (plT (nwQ r) ops k).st < 10000 := by
        have := plT_st (nwQ r) ops k
        have e : (nwQ r).st = 0 := rfl
        have := NB.out
        omega
      have EN : Hid (Calls Try.prog 9 #[] wr fun e w4 => e = .returned (.bool true) ∧ Hid (Calls Try.prog 10 #[.pointer (some ⟨b', 0, none⟩), .pointer (some ⟨p', 0, none⟩)] w4 fun e w' => e = .returned (.bool true) ∧ Hid (Gb w w'))) := by
        refine (awake_c wr).mono ?_
        rintro e w4 ⟨rfl, g4⟩
        exact ⟨rfl, LvR.elder (LvR.gb X.out g4) hst⟩
      clear X hst HS LG NN
      go_wp2_with fail
      refine EN.out.mono ?_
      rintro e w4 ⟨rfl, E2⟩
      clear EN
      go_wp2_with fail
      refine E2.out.mono ?_
      rintro e w5 ⟨rfl, g5⟩
      go_wp2
      go_ret
      exact ⟨rfl, g5.out⟩
end Go.Proofs.Ytkagnoinifffdaa
