/- The reference's PutChange. -/
import Derived.Test.YtmlincnmhjkjgaaCyCoP
import Derived.Test.YtmlincnmhjkjgaaCy24
namespace Go.Proofs.Ytmlincnmhjkjgaa
open Go.RowKit

theorem allR_of {v : List Int} (h : chk v v.length = 0) : allR v = true ∧ 1 ≤ v.length ∧ v.length ≤ 64 := by
  unfold chk at h
  split at h
  · rename_i hh
    unfold vErr at h
    split at h
    · exact ⟨by assumption, by omega, by omega⟩
    · omega
  · omega
theorem coB_len_take {v : List Int} {q : Nat} (h : q ≤ v.length) : (coB (v.take q)).length = 4 * q := by rw [coB_length, List.length_take, Nat.min_eq_left h]
set_option maxHeartbeats 4000000 in
set_option maxRecDepth 100000 in
theorem rputChange_c {w : World} {u : Value} {v : List Int} (k id : Int) (hu : RdI w u v) :
    Calls Try.prog 17 #[Ch k id u] w fun e w' => e = .returned (pcV k id v) ∧ Gb w w' := by
  have U : Hid (RdI w u v) := hu
  have EE : Hid (chE k id v = if k ≠ 1 ∧ k ≠ 2 then 160 else if id < 1 ∨ 1000000000 < id then 50 else if k = 1 then chk v v.length else if 0 < v.length then 1 else 0) := rfl
  have PN : Hid (∀ z, chE k id v = z → z ≠ 0 → pcV k id v = .tuple #[.string (sb []), .int .i64 z]) := by
    intro z hz h0; unfold pcV; rw [hz, if_neg h0]
  have PY : Hid (chE k id v = 0 → pcV k id v = .tuple #[.string (sb (chT k id v)), .int .i64 0]) := by
    intro hz; unfold pcV; rw [hz, if_pos rfl]
  obtain ⟨a, cap, rfl, ha⟩ := hu
  unfold Ch
  have GA : Gb w (w.alloc (.cells #[.int .i64 k, .int .i64 id, .slice a v.length cap] 25)) := gb_alloc (Below.refl _ _) _
  by_cases hk : k ≠ 1 ∧ k ≠ 2
  · have E : Hid (chE k id v = 160) := by unfold Hid; rw [EE.out, if_pos hk]
    have h1 : (k != 1) = true := by rw [bne_iff_ne]; exact hk.1
    have h2 : (k != 2) = true := by rw [bne_iff_ne]; exact hk.2
    clear hk ha U
    generalize v.length = n at *
    go_enter Try.func17, Try.ntmps17
    go_wp2
    exact bodyPost_ret (v := .tuple #[.string (sb []), .int .i64 160]) (by simp [results, Try.results17, go_sem]; rfl) rfl ⟨by rw [PN.out _ E.out (by decide)], GA⟩
  by_cases hi : id < 1 ∨ 1000000000 < id
  · have E : Hid (chE k id v = 50) := by unfold Hid; rw [EE.out, if_neg hk, if_pos hi]
    have hok : okId id = false := by
      rw [← Bool.not_eq_true, okId_iff]; omega
    have c1 := fun W => rid_v id false hok W
    clear ha U hok hi
    generalize v.length = n at *
    by_cases hk1 : k = 1
    · subst hk1
      clear hk
      go_enter Try.func17, Try.ntmps17
      go_wp2_with fail
      refine (c1 _).mono ?_
      rintro e w' ⟨rfl, rfl⟩
      go_wp2
      exact bodyPost_ret (v := .tuple #[.string (sb []), .int .i64 50]) (by simp [results, Try.results17, go_sem]; rfl) rfl ⟨by rw [PN.out _ E.out (by decide)], GA⟩
    · have hk2 : k = 2 := by omega
      subst hk2
      clear hk hk1
      go_enter Try.func17, Try.ntmps17
      go_wp2_with fail
      refine (c1 _).mono ?_
      rintro e w' ⟨rfl, rfl⟩
      go_wp2
      exact bodyPost_ret (v := .tuple #[.string (sb []), .int .i64 50]) (by simp [results, Try.results17, go_sem]; rfl) rfl ⟨by rw [PN.out _ E.out (by decide)], GA⟩
  have hok : okId id = true := by rw [okId_iff]; omega
  have c1 := fun W => rid_v id true hok W
  obtain ⟨j, rfl⟩ : ∃ j : Nat, id = (j : Int) := ⟨id.toNat, by omega⟩
  have hj : j ≤ 1000000000 := by omega
  clear hok
  by_cases hk1 : k = 1
  · subst hk1
    have E : Hid (chE 1 (j : Int) v = chk v v.length) := by unfold Hid; rw [EE.out, if_neg hk, if_neg hi, if_pos rfl]
    clear hk hi
    have c2 := fun W (g : Gb w W) => rcheck_c (U.out.gb g) (v.length : Int)
    have A : Hid (∀ i, i < v.length → ∃ b o, a = some ⟨b, o, none⟩ ∧ w.cell? ⟨b, o + i, none⟩ = some (.int .i64 v[i]!)) := ha
    clear ha
    by_cases hz : chk v v.length = 0
    · obtain ⟨al, l1, l2⟩ := allR_of hz
      have TT : Hid (chT 1 (j : Int) v = [] ++ leB 1 1 ++ leB j 4 ++ leB v.length 1 ++ coB v) := by unfold Hid chT; rw [if_pos rfl]; simp
      have AL : Hid (allR v = true) := al
      have EZ : Hid (chE 1 (j : Int) v = 0) := by unfold Hid; rw [E.out, hz]
      rw [hz] at c2
      obtain ⟨n, hN⟩ : ∃ n, n = v.length := ⟨_, rfl⟩
      have N : Hid (n = v.length) := hN
      rw [← hN] at c2 l1 l2 TT GA ⊢
      clear hN hz al
      go_enter Try.func17, Try.ntmps17
      go_wp2_with fail
      refine (c1 _).mono ?_
      rintro e w' ⟨rfl, rfl⟩
      have B0 : (w.alloc (.cells #[.int .i64 1, .int .i64 (j : Int), .slice a n cap] 25)).cell? ⟨w.heap.size, 0, none⟩ = some (.int .i64 1) ∧ (w.alloc (.cells #[.int .i64 1, .int .i64 (j : Int), .slice a n cap] 25)).cell? ⟨w.heap.size, 1, none⟩ = some (.int .i64 (j : Int)) ∧ (w.alloc (.cells #[.int .i64 1, .int .i64 (j : Int), .slice a n cap] 25)).cell? ⟨w.heap.size, 2, none⟩ = some (.slice a n cap) := by simp [go_sem]
      generalize w.alloc (.cells #[.int .i64 1, .int .i64 (j : Int), .slice a n cap] 25) = w1 at *
      obtain ⟨p0, p1, p2⟩ := B0
      have P2 : Hid (∀ W, Gb w1 W → W.cell? ⟨w.heap.size, 2, none⟩ = some (.slice a n cap)) := fun W g => gb_keeps g p2
      have n1 := rnumber_g (Below.refl _ w1) (ownb_nil w1 w1.heap.size) 1 1 (by decide) (by simp)
      go_wp2_with fail
      refine n1.mono ?_
      rintro e w3 ⟨v3, rfl, o3, g3⟩
      have b0 := gb_keeps g3 p0
      have b1 := gb_keeps g3 p1
      have n2 := rnumber_g g3 o3 j 4 (by omega) (by simp [leB_length])
      go_wp2_with fail
      refine n2.mono ?_
      rintro e w4 ⟨v4, rfl, o4, g4⟩
      have b0 := gb_keeps g4 p0
      have b2 := P2.out _ g4
      go_wp2_with fail
      refine (c2 _ (gb_trans GA g4)).mono ?_
      rintro e w' ⟨rfl, rfl⟩
      have n3 := rnumber_g g4 o4 n 1 (by omega) (by simp [leB_length])
      go_wp2_with fail
      refine n3.mono ?_
      rintro e w5 ⟨v5, rfl, o5, g5⟩
      have LP : Hid (([] ++ leB 1 1 ++ leB j 4 ++ leB n 1).length = 6) := by unfold Hid; simp [leB_length]
      generalize [] ++ leB 1 1 ++ leB j 4 ++ leB n 1 = pre at *
      have O : Hid (OwnB w5 w1.heap.size v5 (pre ++ coB (v.take 0)) ∧ Gb w1 w5) := ⟨by simpa [coB] using o5, g5⟩
      have GA' : Hid (Gb w w1) := GA
      clear o5 g5 o4 g4 n1 n2 n3 b0 b1 b2 p0 p1 p2 c1 c2 GA
      go_wp2
      go_loopw [4, 6] (fun bb iv w' => ∃ q : Nat, iv = .int .i64 (q : Int) ∧ q ≤ n ∧ Hid (OwnB w' w1.heap.size bb (pre ++ coB (v.take q)) ∧ Gb w1 w')) (fun _ iv _ => n - (intOf iv).toNat)
      case atStart => exact ⟨0, rfl, Nat.zero_le _, O.out⟩
      case round =>
        obtain ⟨q, rfl, hq, X⟩ := hrel
        have b2 := P2.out _ X.out.2
        by_cases hqn : q < n
        · have hqi : (q : Int) < (n : Int) := by omega
          have hql : q < v.length := by have := N.out; omega
          obtain ⟨b, o, ea, hc⟩ := A.out q hql
          have hcell := gb_keeps (gb_trans GA'.out X.out.2) hc
          have hb := allR_get AL.out hql
          have S : Hid (pre ++ coB (v.take (q + 1)) = pre ++ coB (v.take q) ++ co1 v[q]!) := by unfold Hid; rw [coB_take hql, List.append_assoc]
          have m1 := rcoord_g X.out.2 X.out.1 v[q]! (by omega) (by omega) (by rw [List.length_append, LP.out, coB_len_take (Nat.le_of_lt hql)]; omega)
          rw [← S.out] at m1
          generalize v[q]! = x at *
          subst ea
          go_wp2_with fail
          refine m1.mono ?_
          rintro e w6 ⟨v6, rfl, o6, g6⟩
          go_wp2
          exact ⟨⟨q + 1, by simp, hqn, o6, g6⟩, by simp [intOf]; omega⟩
        · have e : q = n := by omega
          subst e
          have Y := X.out
          rw [List.take_of_length_le (by have := N.out; omega), ← TT.out] at Y
          have hs := str_of Y.1.rd
          have YG := Y.2
          clear X Y
          go_wp2
          exact bodyPost_ret (v := .tuple #[.string (sb (chT 1 (j : Int) v)), .int .i64 0]) (by simp [results, Try.results17, go_sem]) rfl ⟨by rw [PY.out EZ.out], gb_trans GA'.out YG⟩
    · have hz0 : chk v v.length ≠ 0 := hz
      have EN : Hid (pcV 1 (j : Int) v = .tuple #[.string (sb []), .int .i64 (chk v v.length)]) := by unfold Hid; rw [PN.out _ E.out hz0]
      clear hz
      generalize v.length = n at *
      generalize chk v n = z at *
      have hz' : (z != 0) = true := by rw [bne_iff_ne]; exact hz0
      clear hz0
      go_enter Try.func17, Try.ntmps17
      go_wp2_with fail
      refine (c1 _).mono ?_
      rintro e w' ⟨rfl, rfl⟩
      have B0 : (w.alloc (.cells #[.int .i64 1, .int .i64 (j : Int), .slice a n cap] 25)).cell? ⟨w.heap.size, 0, none⟩ = some (.int .i64 1) ∧ (w.alloc (.cells #[.int .i64 1, .int .i64 (j : Int), .slice a n cap] 25)).cell? ⟨w.heap.size, 1, none⟩ = some (.int .i64 (j : Int)) ∧ (w.alloc (.cells #[.int .i64 1, .int .i64 (j : Int), .slice a n cap] 25)).cell? ⟨w.heap.size, 2, none⟩ = some (.slice a n cap) := by simp [go_sem]
      generalize w.alloc (.cells #[.int .i64 1, .int .i64 (j : Int), .slice a n cap] 25) = w1 at *
      obtain ⟨p0, p1, p2⟩ := B0
      have n1 := rnumber_g (Below.refl _ w1) (ownb_nil w1 w1.heap.size) 1 1 (by decide) (by simp)
      go_wp2_with fail
      refine n1.mono ?_
      rintro e w3 ⟨v3, rfl, o3, g3⟩
      have b0 := gb_keeps g3 p0
      have b1 := gb_keeps g3 p1
      have n2 := rnumber_g g3 o3 j 4 (by omega) (by simp [leB_length])
      go_wp2_with fail
      refine n2.mono ?_
      rintro e w4 ⟨v4, rfl, o4, g4⟩
      have b0 := gb_keeps g4 p0
      have b2 := gb_keeps g4 p2
      go_wp2_with fail
      refine (c2 _ (gb_trans GA g4)).mono ?_
      rintro e w' ⟨rfl, rfl⟩
      go_wp2
      exact bodyPost_ret (v := .tuple #[.string (sb []), .int .i64 z]) (by simp [results, Try.results17, go_sem]; rfl) rfl ⟨by rw [EN.out], gb_trans GA g4⟩
  · have hk2 : k = 2 := by omega
    subst hk2
    have E : Hid (chE 2 (j : Int) v = if 0 < v.length then 1 else 0) := by unfold Hid; rw [EE.out, if_neg hk, if_neg hi, if_neg (by decide)]
    clear hk hi hk1 ha U
    have TT : Hid (v.length = 0 → pcV 2 (j : Int) v = .tuple #[.string (sb ([] ++ leB 2 1 ++ leB j 4)), .int .i64 0]) := by
      intro h0
      rw [PY.out (by rw [E.out, if_neg (by omega)]), List.length_eq_zero_iff.1 h0]
      unfold chT; simp
    have TN : Hid (0 < v.length → pcV 2 (j : Int) v = .tuple #[.string (sb []), .int .i64 1]) := by
      intro h0
      rw [PN.out 1 (by rw [E.out, if_pos h0]) (by decide)]
    generalize v.length = n at *
    clear E
    go_enter Try.func17, Try.ntmps17
    go_wp2_with fail
    refine (c1 _).mono ?_
    rintro e w' ⟨rfl, rfl⟩
    have B0 : (w.alloc (.cells #[.int .i64 2, .int .i64 (j : Int), .slice a n cap] 25)).cell? ⟨w.heap.size, 0, none⟩ = some (.int .i64 2) ∧ (w.alloc (.cells #[.int .i64 2, .int .i64 (j : Int), .slice a n cap] 25)).cell? ⟨w.heap.size, 1, none⟩ = some (.int .i64 (j : Int)) ∧ (w.alloc (.cells #[.int .i64 2, .int .i64 (j : Int), .slice a n cap] 25)).cell? ⟨w.heap.size, 2, none⟩ = some (.slice a n cap) := by simp [go_sem]
    generalize w.alloc (.cells #[.int .i64 2, .int .i64 (j : Int), .slice a n cap] 25) = w1 at *
    obtain ⟨p0, p1, p2⟩ := B0
    have n1 := rnumber_g (Below.refl _ w1) (ownb_nil w1 w1.heap.size) 2 1 (by decide) (by simp)
    go_wp2_with fail
    refine n1.mono ?_
    rintro e w3 ⟨v3, rfl, o3, g3⟩
    have b0 := gb_keeps g3 p0
    have b1 := gb_keeps g3 p1
    have n2 := rnumber_g g3 o3 j 4 (by omega) (by simp [leB_length])
    go_wp2_with fail
    refine n2.mono ?_
    rintro e w4 ⟨v4, rfl, o4, g4⟩
    have b0 := gb_keeps g4 p0
    have b2 := gb_keeps g4 p2
    have hs := str_of o4.rd
    by_cases hn : 0 < n
    · have hni : (0 : Int) < (n : Int) := by omega
      clear hs
      go_wp2
      exact bodyPost_ret (v := .tuple #[.string (sb []), .int .i64 1]) (by simp [results, Try.results17, go_sem]; rfl) rfl ⟨by rw [TN.out hn], gb_trans GA g4⟩
    · have hn0 : n = 0 := by omega
      subst hn0
      have TT2 := TT.out rfl
      have TT2 : Hid (pcV 2 (j : Int) v = .tuple #[.string (sb ([] ++ leB 2 1 ++ leB j 4)), .int .i64 0]) := TT2
      generalize sb ([] ++ leB 2 1 ++ leB j 4) = s0 at *
      go_wp2
      exact bodyPost_ret (v := .tuple #[.string s0, .int .i64 0]) (by simp [results, Try.results17, go_sem]) rfl ⟨by rw [TT2.out], gb_trans GA g4⟩
end Go.Proofs.Ytmlincnmhjkjgaa
