/- The reference's Check of rows and PutRows. -/
import Derived.Test.YtmlincnmhjkjgaaCyCoQ
import Derived.Test.YtmlincnmhjkjgaaCyCoH
import Derived.Test.YtmlincnmhjkjgaaCyRRows
import Derived.Deep.DeepCutAuto
namespace Go.Proofs.Ytmlincnmhjkjgaa
open Go.RowKit

theorem rcheck5_c {w : World} {v : Value} {rs : List Rw} (h : RdW w v rs) (hlen : rs.length ≤ 4611686018427387904) (d : Nat) :
    Calls Try.prog 34 #[v, .int .i64 (d : Int)] w fun e w' => e = .returned (.int .i64 (flE rs (d : Int))) ∧ Gb w w' := by
  have c := rrows_c h (d : Int) hlen
  obtain ⟨a, cap, rfl, _⟩ := h
  unfold flE
  generalize rs.length = n at *
  by_cases h1 : 1 ≤ (d : Int) ∧ (d : Int) ≤ 64
  · rw [if_pos h1]
    obtain ⟨h2, h3⟩ := h1
    have h2' : ¬ (d : Int) < 1 := by omega
    have h3' : ¬ (64 : Int) < (d : Int) := by omega
    generalize idsE rs (d : Int) = z at *
    go_enter Try.func34, Try.ntmps34
    go_wp2_with fail
    refine c.mono ?_
    rintro e w' ⟨rfl, g⟩
    go_wp2
    go_ret
    exact ⟨rfl, g.gb⟩
  · rw [if_neg h1]
    clear c
    by_cases h2 : (d : Int) < 1
    · clear h1
      go_enter Try.func34, Try.ntmps34
      go_wp2
      go_ret
      exact ⟨rfl, Below.refl _ _⟩
    · have h3 : (64 : Int) < (d : Int) := by omega
      clear h1
      go_enter Try.func34, Try.ntmps34
      go_wp2
      go_ret
      exact ⟨rfl, Below.refl _ _⟩
/-- Rows that have their number and dimensions right, the ids of the first q rising. -/
structure RwP (rs : List Rw) : Prop where
  few : rs.length ≤ 512
  dim : dimR rs ≤ 64
  row : ∀ i, i < rs.length → 1 ≤ rs[i]!.1 ∧ rs[i]!.1 ≤ 1000000000 ∧ rs[i]!.2.length = dimR rs ∧ 1 ≤ dimR rs ∧ allR rs[i]!.2 = true
theorem rwp_of {rs : List Rw} (h : rs.length = 0 ∨ flE rs (dimR rs : Int) = 0) : RwP rs := by
  rcases h with h0 | hf
  · exact ⟨by omega, by rw [List.length_eq_zero_iff.1 h0]; simp [dimR], fun i hi => by omega⟩
  · unfold flE at hf
    split at hf
    · have k := cidsE_zero.1 hf
      refine ⟨k.few, by omega, fun i hi => ?_⟩
      obtain ⟨k1, k2⟩ := k.row rs[i]! (by rw [getElem!_pos rs i hi]; exact List.getElem_mem hi)
      rw [okId_iff] at k1
      unfold chk at k2
      split at k2
      · unfold vErr at k2
        split at k2
        · exact ⟨k1.1, k1.2, by omega, by omega, by assumption⟩
        · omega
      · omega
    · omega
theorem rwB_len_take {rs : List Rw} (K : RwP rs) {q : Nat} (hq : q ≤ rs.length) : (rwB (rs.take q)).length ≤ 133120 := by
  have := rwB_len (rs := rs.take q) (fun r hr => by
    obtain ⟨i, hi, e⟩ := List.mem_iff_getElem.1 (List.mem_of_mem_take hr)
    have h2 := (K.row i hi).2.2.1
    rw [getElem!_pos rs i hi, e] at h2
    have := K.dim
    omega)
  rw [List.length_take, Nat.min_eq_left hq] at this
  have := K.few
  omega
set_option maxHeartbeats 8000000 in
set_option maxRecDepth 100000 in
/-- The rows' texts behind one another. -/
theorem rputRows_c {w : World} {v : Value} {rs : List Rw} (h : RdW w v rs) (hlen : rs.length ≤ 4611686018427387904) :
    Calls Try.prog 20 #[v] w fun e w' => e = .returned (prV rs) ∧ Gb w w' := by
  have RD : Hid (RdW w v rs) := h
  have cK := fun W (g : Gb w W) => rcheck5_c (h.gb g) hlen (dimR rs)
  have EE : Hid (crE rs = if rs.length = 0 then 0 else if flE rs (dimR rs : Int) = 0 then (if riseR rs (rs.length - 1) = true then 0 else 50) else flE rs (dimR rs : Int)) := rfl
  have PN : Hid (∀ z, crE rs = z → z ≠ 0 → prV rs = .tuple #[.string (sb []), .int .i64 z]) := by
    intro z hz h0; unfold prV; rw [hz, if_neg h0]
  have PY : Hid (crE rs = 0 → prV rs = .tuple #[.string (sb (prT rs)), .int .i64 0]) := by
    intro hz; unfold prV; rw [hz, if_pos rfl]
  obtain ⟨a, cap, rfl, ha⟩ := h
  by_cases h0 : rs.length = 0
  · have E : Hid (prV rs = .tuple #[.string (sb ([] ++ leB 0 1 ++ leB 0 2)), .int .i64 0]) := by
      unfold Hid
      rw [PY.out (by rw [EE.out, if_pos h0]), List.length_eq_zero_iff.1 h0]
      rfl
    rw [h0]
    clear ha cK RD
    have n1 := rnumber_g (Below.refl _ w) (ownb_nil w w.heap.size) 0 1 (by decide) (by simp)
    go_enter Try.func20, Try.ntmps20
    go_wp2_with fail
    refine n1.mono ?_
    rintro e w3 ⟨v3, rfl, o3, g3⟩
    have n2 := rnumber_g g3 o3 0 2 (by decide) (by simp [leB_length])
    go_wp2_with fail
    refine n2.mono ?_
    rintro e w4 ⟨v4, rfl, o4, g4⟩
    have hs := str_of o4.rd
    generalize sb ([] ++ leB 0 1 ++ leB 0 2) = s0 at *
    go_wp2
    go_loopw [6, 7] (fun bb iv w' => bb = v4 ∧ iv = .int .i64 0 ∧ w4 = w') (fun _ _ _ => 0)
    case atStart => exact ⟨rfl, rfl, rfl⟩
    case round =>
      obtain ⟨rfl, rfl, rfl⟩ := hrel
      go_wp2
      exact bodyPost_ret (v := .tuple #[.string s0, .int .i64 0]) (by simp [results, Try.results20, go_sem]) rfl ⟨by rw [E.out], g4⟩
  · have hD := dimR_get (rs := rs) (by omega)
    obtain ⟨b0, o0, u0, ea0, f1, f2, p0, c0, eu0, _⟩ := ha 0 (by omega)
    cases ea0
    rw [Nat.zero_mul, Nat.add_zero] at f1 f2
    rw [← hD] at eu0
    subst eu0
    have hn0 : 0 < rs.length := by omega
    have hn0' : (0 : Int) < (rs.length : Int) := by omega
    obtain ⟨n, hN⟩ : ∃ n, n = rs.length := ⟨_, rfl⟩
    have N : Hid (n = rs.length) := hN
    by_cases hf : flE rs (dimR rs : Int) = 0
    · have K : Hid (RwP rs) := rwp_of (.inr hf)
      have ER : Hid (crE rs = if riseR rs (n - 1) = true then 0 else 50) := by unfold Hid; rw [EE.out, if_neg h0, if_pos hf, hN]
      rw [hf] at cK
      have TT : Hid (prT rs = [] ++ leB (dimR rs) 1 ++ leB n 2 ++ rwB rs) := by unfold Hid prT; rw [hN]; simp
      have hd : dimR rs ≤ 64 := K.out.dim
      have hn : rs.length ≤ 512 := K.out.few
      have DM : Hid (∀ i, i < rs.length → rs[i]!.2.length = dimR rs) := fun i hi => (K.out.row i hi).2.2.1
      rw [← hN] at cK hn hn0 hn0' hlen h0 ⊢
      generalize dimR rs = d at *
      clear ha hf EE hN hD
      go_enter Try.func20, Try.ntmps20
      go_wp2_with fail
      refine (cK _ (Below.refl _ _)).mono ?_
      rintro e w1 ⟨rfl, g1⟩
      have G1 : Hid (Gb w w1) := g1
      have n1 := rnumber_g (Below.refl _ w1) (ownb_nil w1 w1.heap.size) d 1 (by omega) (by simp)
      go_wp2_with fail
      refine n1.mono ?_
      rintro e w2 ⟨v2, rfl, o2, g2⟩
      have n2 := rnumber_g g2 o2 n 2 (by omega) (by simp [leB_length])
      go_wp2_with fail
      refine n2.mono ?_
      rintro e w3 ⟨v3, rfl, o3, g3⟩
      have LP : Hid (([] ++ leB d 1 ++ leB n 2).length = 3) := by unfold Hid; simp [leB_length]
      generalize [] ++ leB d 1 ++ leB n 2 = pre at *
      have O : Hid (OwnB w3 w1.heap.size v3 (pre ++ rwB (rs.take 0)) ∧ Gb w1 w3) := ⟨by simpa [rwB] using o3, g3⟩
      clear o3 g3 o2 g2 n1 n2 cK g1
      go_wp2
      go_loopw [6, 7] (fun bb iv w' => ∃ q : Nat, iv = .int .i64 (q : Int) ∧ q ≤ n ∧ Hid ((q = 0 ∨ riseR rs (q - 1) = true) ∧ OwnB w' w1.heap.size bb (pre ++ rwB (rs.take q)) ∧ Gb w1 w')) (fun _ iv _ => n - (intOf iv).toNat)
      case atStart => exact ⟨0, rfl, Nat.zero_le _, .inl rfl, O.out⟩
      case round =>
        obtain ⟨q, rfl, hq, X⟩ := hrel
        by_cases hqn : q < n
        · have hqi : (q : Int) < (n : Int) := by omega
          have hql : q < rs.length := by have := N.out; omega
          obtain ⟨_, _, ee, hA⟩ := RD.out.gb G1.out
          cases ee
          obtain ⟨b', o', u', e', c1, c2, hu⟩ := hA q hql
          cases e'
          have C1 : Hid (∀ W, Gb w1 W → W.cell? ⟨b0, o0 + q * 2, none⟩ = some (.int .i64 rs[q]!.1)) := fun W g => gb_keeps g c1
          replace c1 := gb_keeps X.out.2.2 c1
          have hdm := DM.out q hql
          obtain ⟨bb, hbb⟩ : ∃ bb : Bool, bb = (decide (0 < q) && decide (rs[q]!.1 ≤ rs[q - 1]!.1)) := ⟨_, rfl⟩
          have BB : Hid (bb = (decide (0 < q) && decide (rs[q]!.1 ≤ rs[q - 1]!.1))) := hbb
          have P1 : Hid (∀ p, q = p + 1 → wr.cell? ⟨b0, o0 + p * 2, none⟩ = some (.int .i64 rs[p]!.1)) := by
            intro p hp
            obtain ⟨b'', o'', u'', e'', d1, _⟩ := hA p (by omega)
            cases e''
            exact gb_keeps X.out.2.2 d1
          have KQ : Hid (1 ≤ rs[q]!.1 ∧ rs[q]!.1 ≤ 1000000000 ∧ allR rs[q]!.2 = true) := by
            have := K.out.row q hql
            exact ⟨this.1, this.2.1, this.2.2.2.2⟩
          have UQ : Hid (∃ c, ∃ a', u' = .slice a' d c ∧ ∀ i, i < d → ∃ b o, a' = some ⟨b, o, none⟩ ∧ w1.cell? ⟨b, o + i, none⟩ = some (.int .i64 rs[q]!.2[i]!)) := by
            obtain ⟨a', cc, e1, hh⟩ := hu
            rw [hdm] at e1 hh
            exact ⟨cc, a', e1, hh⟩
          obtain ⟨cc, a', eu', hel⟩ := UQ.out
          subst eu'
          have EL : Hid (∀ i, i < d → ∃ b o, a' = some ⟨b, o, none⟩ ∧ w1.cell? ⟨b, o + i, none⟩ = some (.int .i64 rs[q]!.2[i]!)) := hel
          have C2 : Hid (∀ W, Gb w1 W → W.cell? ⟨b0, o0 + q * 2 + 1, none⟩ = some (.slice a' d cc)) := fun W g => gb_keeps g c2
          have DL : Hid (rs[q]!.2.length = d) := hdm
          clear hbb hA c2 hdm hel hu UQ
          go_upto_region 12 with (fail)
          go_cut [50] (fun sv wx => sv = .bool bb ∧ Hid (Gb wr wx))
          case first =>
            by_cases h00 : q = 0
            · subst h00
              have e : bb = false := by rw [BB.out]; simp
              subst e
              go_quiet (fail)
              go_wp2_with fail
              go_meet
              case rel => exact ⟨rfl, below_drewN (Below.refl _ _) _⟩
            · obtain ⟨p, rfl⟩ : ∃ p, q = p + 1 := ⟨q - 1, by omega⟩
              have d1 := P1.out p rfl
              have e : bb = decide (rs[p + 1]!.1 ≤ rs[p]!.1) := by rw [BB.out]; simp
              have hp1 : ((p + 1 : Nat) : Int) - 1 = (p : Int) := by omega
              have hp2 : (0 : Int) < ((p + 1 : Nat) : Int) := by omega
              have hp3 : (p : Int) < (n : Int) := by omega
              clear BB P1 KQ C2 X C1 EL DL
              generalize rs[p + 1]!.1 = y at *
              generalize rs[p]!.1 = x at *
              subst e
              go_quiet (fail)
              go_wp2_with fail
              go_meet
              case rel => exact ⟨rfl, below_drewN (Below.refl _ _) _⟩
          case rest =>
            obtain ⟨rfl, XC⟩ := hcut
            have GC := gb_trans X.out.2.2 XC.out
            have XCC : Hid (Gb wr wc) := XC.out
            cases hbv : bb with
            | true =>
              have hb := BB.out
              rw [hbv] at hb
              have hb := hb.symm
              rw [Bool.and_eq_true, decide_eq_true_eq, decide_eq_true_eq] at hb
              have E5 : Hid (crE rs = 50) := by
                obtain ⟨p, hp⟩ : ∃ p, q = p + 1 := ⟨q - 1, by omega⟩
                have hq1 : rs[p + 1]!.1 ≤ rs[p]!.1 := by
                  have h2 := hb.2
                  rw [hp] at h2
                  exact h2
                have hr : riseR rs q = false := by rw [hp, riseR, decide_eq_false (by omega), Bool.and_false]
                unfold Hid; rw [ER.out, if_neg (by rw [riseR_stay (p := q) (by omega) hr]; simp)]
              clear hb BB P1 KQ C2 C1 EL DL X
              go_wp2
              exact bodyPost_ret (v := .tuple #[.string (sb []), .int .i64 50]) (by simp [results, Try.results20, go_sem]; rfl) rfl ⟨by rw [PN.out _ E5.out (by decide)], gb_trans G1.out GC⟩
            | false =>
              have NR : Hid (q + 1 = 0 ∨ riseR rs (q + 1 - 1) = true) := by
                refine .inr ?_
                rw [Nat.add_sub_cancel]
                have hb := BB.out
                rw [hbv] at hb
                have hx := X.out.1
                cases q with
                | zero => rfl
                | succ p =>
                  simp only [Nat.add_sub_cancel] at hb hx
                  rw [riseR]
                  simp at hb hx ⊢
                  exact ⟨hx, by omega⟩
              clear BB P1 XC
              have OC := OwnB.gb X.out.2.1 XCC.out
              have LB := rwB_len_take K.out (q := q) (Nat.le_of_lt hql)
              have L0 : Hid ((pre ++ rwB (rs.take q)).length ≤ 133123) := by unfold Hid; rw [List.length_append, LP.out]; omega
              have T : Hid (pre ++ rwB (rs.take (q + 1)) = pre ++ rwB (rs.take q) ++ leB rs[q]!.1.toNat 4 ++ coB rs[q]!.2) := by unfold Hid; rw [rwB_take hql]; simp [List.append_assoc]
              have hid : ((rs[q]!.1.toNat : Nat) : Int) = rs[q]!.1 := by have := KQ.out; omega
              have c1 := C1.out _ GC
              have n3 := rnumber_g GC OC rs[q]!.1.toNat 4 (by have := KQ.out; omega) (by have := L0.out; omega)
              rw [hid] at n3
              generalize pre ++ rwB (rs.take q) = cur at *
              have AL : Hid (allR rs[q]!.2 = true) := KQ.out.2.2
              generalize rs[q]!.2 = vs at *
              generalize rs[q]!.1 = y at *
              clear hid KQ C1 X OC LB
              go_wp2_with fail
              refine n3.mono ?_
              rintro e w6 ⟨v6, rfl, o6, g6⟩
              have L6 : Hid ((cur ++ leB y.toNat 4).length ≤ 133127) := by unfold Hid; rw [List.length_append, leB_length]; have := L0.out; omega
              have O6 : Hid (OwnB w6 w1.heap.size v6 (cur ++ leB y.toNat 4 ++ coB (vs.take 0)) ∧ Gb w1 w6) := ⟨by simpa [coB] using o6, g6⟩
              generalize cur ++ leB y.toNat 4 = cur2 at *
              clear o6 g6 n3 c1
              go_wp2
              go_loopw [6, 8] (fun bb iv w' => ∃ j : Nat, iv = .int .i64 (j : Int) ∧ j ≤ d ∧ Hid (OwnB w' w1.heap.size bb (cur2 ++ coB (vs.take j)) ∧ Gb w1 w')) (fun _ iv _ => d - (intOf iv).toNat)
              case atStart => exact ⟨0, rfl, Nat.zero_le _, O6.out⟩
              case round =>
                obtain ⟨j, rfl, hj, Y⟩ := hrel
                by_cases hjd : j < d
                · have hji : (j : Int) < (d : Int) := by omega
                  have hjl : j < vs.length := by have := DL.out; omega
                  obtain ⟨be, oe, e1, ce⟩ := EL.out j hjd
                  have ce := gb_keeps Y.out.2 ce
                  have cs := C2.out _ Y.out.2
                  have hb := allR_get AL.out hjl
                  have S : Hid (cur2 ++ coB (vs.take (j + 1)) = cur2 ++ coB (vs.take j) ++ co1 vs[j]!) := by unfold Hid; rw [coB_take hjl, List.append_assoc]
                  have m1 := rcoord_g Y.out.2 Y.out.1 vs[j]! (by omega) (by omega) (by rw [List.length_append, coB_len_take (Nat.le_of_lt hjl)]; have := L6.out; omega)
                  rw [← S.out] at m1
                  generalize vs[j]! = x at *
                  subst e1
                  go_wp2_with fail
                  refine m1.mono ?_
                  rintro e w7 ⟨v7, rfl, o7, g7⟩
                  go_wp2
                  go_roundw
                  case rel => exact ⟨j + 1, by simp, hjd, o7, g7⟩
                  case measure => simp [intOf]; omega
                · have e : j = d := by omega
                  have Z := Y.out
                  rw [List.take_of_length_le (by have := DL.out; omega), ← T.out] at Z
                  have Z2 := Z
                  clear Z
                  subst e
                  go_wp2
                  go_roundw
                  case rel => exact ⟨q + 1, by simp, hqn, NR.out, Z2.1, Z2.2⟩
                  case measure => simp [intOf]; omega
        · have e : q = n := by omega
          subst e
          have Y := X.out
          rw [List.take_of_length_le (by have := N.out; omega), ← TT.out] at Y
          have E0 : Hid (prV rs = .tuple #[.string (sb (prT rs)), .int .i64 0]) := by
            unfold Hid
            refine PY.out ?_
            rw [ER.out]
            rcases Y.1 with h | h
            · omega
            · rw [if_pos h]
          have hs := str_of Y.2.1.rd
          have YG := Y.2.2
          clear X Y
          go_wp2
          exact bodyPost_ret (v := .tuple #[.string (sb (prT rs)), .int .i64 0]) (by simp [results, Try.results20, go_sem]) rfl ⟨by rw [E0.out], gb_trans G1.out YG⟩
    · have EN : Hid (prV rs = .tuple #[.string (sb []), .int .i64 (flE rs (dimR rs : Int))]) := by
        unfold Hid; rw [PN.out (flE rs (dimR rs : Int)) (by rw [EE.out, if_neg h0, if_neg hf]) hf]
      generalize flE rs (dimR rs : Int) = z at *
      have hz' : (z != 0) = true := by rw [bne_iff_ne]; exact hf
      clear hf ha RD hD hN EE
      generalize dimR rs = d at *
      generalize rs.length = m at *
      go_enter Try.func20, Try.ntmps20
      go_wp2_with fail
      refine (cK _ (Below.refl _ _)).mono ?_
      rintro e w1 ⟨rfl, g1⟩
      go_wp2
      exact bodyPost_ret (v := .tuple #[.string (sb []), .int .i64 z]) (by simp [results, Try.results20, go_sem]; rfl) rfl ⟨by rw [EN.out], g1⟩
end Go.Proofs.Ytmlincnmhjkjgaa
