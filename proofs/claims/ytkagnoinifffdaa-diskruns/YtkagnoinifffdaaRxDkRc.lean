/- The reference's small calls: says, choice, Name. -/
import Derived.Test.YtkagnoinifffdaaRxDkRb
namespace Go.Proofs.Ytkagnoinifffdaa
open Go.RowKit Go.Lib Go.Maps

theorem rsays_c (c : Int) (n : Nat) (w : World) (hc : -9223372036854775808 ≤ c ∧ c ≤ 9223372036854775807) (hn : n ≤ 4611686018427387904) :
    Calls Try.prog 69 #[.int .i64 c, .int .i64 (n : Int)] w fun e w' => e = .returned (.int .i64 (shr c n : Int)) ∧ w' = w := by
  obtain ⟨c1, c2⟩ := hc
  have hz : ((n : Int) + 1 == 0) = false := by rw [beq_eq_false_iff_ne]; omega
  by_cases h : c < 0
  · have R : Hid ((shr c n : Int) = (-(c + 1)) % ((n : Int) + 1)) := by
      unfold Hid shr
      rw [if_pos h]
      have h1 := Int.emod_nonneg (-(c + 1)) (show ((n : Int) + 1) ≠ 0 by omega)
      omega
    have h0 : 0 ≤ -(c + 1) := by omega
    go_enter Try.func69, Try.ntmps69
    go_wp2
    go_ret
    have e : -((c + 1).tmod ((n : Int) + 1)) = (shr c n : Int) := by rw [R.out, ← Int.tmod_eq_emod_of_nonneg h0, Int.neg_tmod]
    exact ⟨by rw [← e]; rfl, rfl⟩
  · have R : Hid ((shr c n : Int) = c % ((n : Int) + 1)) := by
      unfold Hid shr
      rw [if_neg h]
      have h1 := Int.emod_nonneg c (show ((n : Int) + 1) ≠ 0 by omega)
      omega
    have h0 : 0 ≤ c := by omega
    go_enter Try.func69, Try.ntmps69
    go_wp2
    go_ret
    exact ⟨by rw [R.out]; rfl, rfl⟩
theorem rchoice_c {w : World} {v : Value} {l : List Int} (h : RdI w v l) (i : Nat) : Calls Try.prog 70 #[v, .int .i64 (i : Int)] w fun e w' => e = .returned (.int .i64 (chc l i)) ∧ w' = w := by
  obtain ⟨a, cap, rfl, ha⟩ := h
  by_cases hi : i < l.length
  · have E : chc l i = l[i]! := by unfold chc; rw [if_pos hi]
    rw [E]
    obtain ⟨b, o, rfl, hc⟩ := ha i hi
    have hii : (i : Int) < (l.length : Int) := by omega
    generalize l[i]! = x at *
    generalize l.length = n at *
    clear E ha
    go_enter Try.func70, Try.ntmps70
    go_wp2
    go_ret
    exact ⟨rfl, rfl⟩
  · have E : chc l i = 0 := by unfold chc; rw [if_neg hi]
    rw [E]
    have hii : ¬ (i : Int) < (l.length : Int) := by omega
    generalize l.length = n at *
    clear E ha
    go_enter Try.func70, Try.ntmps70
    go_wp2
    go_ret
    exact ⟨rfl, rfl⟩
theorem nbI_cases (x : Int) : nbI x = true ∧ (97 ≤ x ∧ x ≤ 122 ∨ 48 ≤ x ∧ x ≤ 57 ∨ x = 46 ∨ x = 45) ∨ nbI x = false ∧ (x < 97 ∨ 122 < x) ∧ (x < 48 ∨ 57 < x) ∧ x ≠ 46 ∧ x ≠ 45 := by
  unfold nbI
  by_cases h1 : 97 ≤ x ∧ x ≤ 122
  · exact .inl ⟨by simp [h1.1, h1.2], .inl h1⟩
  by_cases h2 : 48 ≤ x ∧ x ≤ 57
  · exact .inl ⟨by simp [h2.1, h2.2], .inr (.inl h2)⟩
  by_cases h3 : x = 46
  · exact .inl ⟨by simp [h3], .inr (.inr (.inl h3))⟩
  by_cases h4 : x = 45
  · exact .inl ⟨by simp [h4], .inr (.inr (.inr h4))⟩
  refine .inr ⟨?_, by omega, by omega, h3, h4⟩
  simp only [Bool.or_eq_false_iff, Bool.and_eq_false_iff, decide_eq_false_iff_not]
  omega
set_option maxHeartbeats 4000000 in
theorem rname_c (s : ByteArray) (hs : s.size ≤ 4611686018427387904) (w : World) : Calls Try.prog 65 #[.string s] w fun e w' => e = .returned (.bool (nmOk s.data.toList)) ∧ w' = w := by
  have SZ : Hid (s.data.toList.length = s.size) := by unfold Hid; simp
  by_cases h1 : s.size < 1
  · have E : nmOk s.data.toList = false := by unfold nmOk; rw [SZ.out, decide_eq_false (show ¬ 1 ≤ s.size by omega)]; rfl
    rw [E]
    have h1i : (s.size : Int) < 1 := by omega
    clear h1
    go_enter Try.func65, Try.ntmps65
    go_wp2
    go_ret
    exact ⟨rfl, rfl⟩
  by_cases h2 : 32 < s.size
  · have E : nmOk s.data.toList = false := by unfold nmOk; rw [SZ.out, decide_eq_false (show ¬ s.size ≤ 32 by omega), Bool.and_false]; rfl
    rw [E]
    have h2i : (32 : Int) < (s.size : Int) := by omega
    have h1i : ¬ (s.size : Int) < 1 := by omega
    clear h1 h2
    go_enter Try.func65, Try.ntmps65
    go_wp2
    go_ret
    exact ⟨rfl, rfl⟩
  have E : Hid (nmOk s.data.toList = nmTo s.data.toList s.size) := by
    unfold Hid nmOk
    rw [SZ.out, decide_eq_true (show 1 ≤ s.size by omega), decide_eq_true (show s.size ≤ 32 by omega)]; rfl
  have h2i : ¬ (32 : Int) < (s.size : Int) := by omega
  have h1i : ¬ (s.size : Int) < 1 := by omega
  clear h1 h2
  go_enter Try.func65, Try.ntmps65
  go_wp2
  go_loopw [3] (fun iv w' => ∃ q : Nat, iv = .int .i64 (q : Int) ∧ q ≤ s.size ∧ Hid (nmTo s.data.toList q = true) ∧ w = w') (fun iv _ => s.size - (intOf iv).toNat)
  case atStart => exact ⟨0, rfl, Nat.zero_le _, rfl, rfl⟩
  case round =>
    obtain ⟨q, rfl, hq, X, rfl⟩ := hrel
    by_cases hqn : q < s.size
    · have hqi : (q : Int) < (s.size : Int) := by omega
      have hql : q < s.data.toList.length := by rw [SZ.out]; exact hqn
      have hx : s.data.toList[q]! = s[q] := by rw [getElem!_pos s.data.toList q hql]; rfl
      have S : Hid (nmTo s.data.toList (q + 1) = (nmTo s.data.toList q && nbI (s[q].toNat : Int))) := by unfold Hid; rw [nmTo, hx]
      have ST : Hid (nmTo s.data.toList (q + 1) = false → nmTo s.data.toList s.size = false) := fun h => nmTo_stay hqn h
      clear hx
      rcases nbI_cases (s[q].toNat : Int) with ⟨hn, hc⟩ | ⟨hn, hc1, hc2, hc3, hc4⟩
      · have S2 : Hid (nmTo s.data.toList (q + 1) = true) := by unfold Hid; rw [S.out, X.out, hn]; rfl
        clear hn S ST E
        rcases hc with ⟨h1, h2⟩ | ⟨h1, h2⟩ | h1 | h1
        · have a1 : ¬ (s[q].toNat : Int) < 97 := by omega
          have a2 : ¬ 122 < (s[q].toNat : Int) := by omega
          clear h1 h2
          go_wp2
          exact ⟨⟨q + 1, by simp, hqn, S2.out, by first | rfl | trivial⟩, by simp [intOf]; omega⟩
        · have a1 : (s[q].toNat : Int) < 97 := by omega
          have a2 : ¬ (s[q].toNat : Int) < 48 := by omega
          have a3 : ¬ 57 < (s[q].toNat : Int) := by omega
          clear h1 h2
          go_wp2
          exact ⟨⟨q + 1, by simp, hqn, S2.out, by first | rfl | trivial⟩, by simp [intOf]; omega⟩
        · have a1 : (s[q].toNat : Int) < 97 := by omega
          have a2 : (s[q].toNat : Int) < 48 := by omega
          have b1 : ((s[q].toNat : Int) != 46) = false := by rw [bne_eq_false_iff_eq]; exact h1
          clear h1
          go_wp2
          exact ⟨⟨q + 1, by simp, hqn, S2.out, by first | rfl | trivial⟩, by simp [intOf]; omega⟩
        · have a1 : (s[q].toNat : Int) < 97 := by omega
          have a2 : (s[q].toNat : Int) < 48 := by omega
          have b1 : ((s[q].toNat : Int) != 46) = true := by rw [bne_iff_ne]; omega
          have b2 : ((s[q].toNat : Int) != 45) = false := by rw [bne_eq_false_iff_eq]; exact h1
          clear h1
          go_wp2
          exact ⟨⟨q + 1, by simp, hqn, S2.out, by first | rfl | trivial⟩, by simp [intOf]; omega⟩
      · have S2 : Hid (nmOk s.data.toList = false) := by unfold Hid; rw [E.out, ST.out (by rw [S.out, hn, Bool.and_false])]
        clear hn S ST E
        have b1 : ((s[q].toNat : Int) != 46) = true := by rw [bne_iff_ne]; exact hc3
        have b2 : ((s[q].toNat : Int) != 45) = true := by rw [bne_iff_ne]; exact hc4
        clear hc3 hc4
        by_cases a1 : (s[q].toNat : Int) < 97
        · by_cases a2 : (s[q].toNat : Int) < 48
          · clear hc1 hc2
            go_wp2
            go_ret
            exact ⟨by rw [S2.out]; rfl, by first | rfl | trivial⟩
          · have a3 : 57 < (s[q].toNat : Int) := by omega
            clear hc1 hc2
            go_wp2
            go_ret
            exact ⟨by rw [S2.out]; rfl, by first | rfl | trivial⟩
        · have a2 : 122 < (s[q].toNat : Int) := by omega
          have a3 : ¬ (s[q].toNat : Int) < 48 := by omega
          have a4 : 57 < (s[q].toNat : Int) := by omega
          clear hc1 hc2
          go_wp2
          go_ret
          exact ⟨by rw [S2.out]; rfl, by first | rfl | trivial⟩
    · have e : q = s.size := by omega
      have Y : Hid (nmOk s.data.toList = true) := by unfold Hid; rw [E.out, ← e]; exact X.out
      have hqi : ¬ (q : Int) < (s.size : Int) := by omega
      clear e hqn
      go_wp2
      go_ret
      exact ⟨by rw [Y.out]; rfl, by first | rfl | trivial⟩
end Go.Proofs.Ytkagnoinifffdaa
