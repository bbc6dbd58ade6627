/- disk's small calls: isNameByte, isName, share, choice. -/
import Derived.Test.YtcbhhdjjanekaaaGreatDoorWx1
namespace Go.Proofs.YtcbhhdjjanekaaaGreatDoor
open Go.RowKit

/-- May a byte stand in a file's name? -/
def nbI (x : Int) : Bool := decide (97 ≤ x) && decide (x ≤ 122) || decide (48 ≤ x) && decide (x ≤ 57) || decide (x = 46) || decide (x = 45)
theorem isNameByte_c (x : Int) (w : World) (hx : 0 ≤ x ∧ x < 256) : Calls Tryz.prog 127 #[.int .u8 x] w fun e w' => e = .returned (.bool (nbI x)) ∧ w = w' := by
  by_cases h1 : 97 ≤ x ∧ x ≤ 122
  · have e : nbI x = true := by unfold nbI; simp [h1.1, h1.2]
    rw [e]
    obtain ⟨a, b⟩ := h1
    go_enter Tryz.func127, Tryz.ntmps127
    go_wp2
    go_ret
    exact ⟨rfl, rfl⟩
  · by_cases h2 : 48 ≤ x ∧ x ≤ 57
    · have e : nbI x = true := by unfold nbI; simp [h2.1, h2.2]
      rw [e]
      obtain ⟨a, b⟩ := h2
      have c : ¬ 97 ≤ x := by omega
      clear h1
      go_enter Tryz.func127, Tryz.ntmps127
      go_wp2
      go_ret
      exact ⟨rfl, rfl⟩
    · by_cases h3 : x = 46
      · subst h3
        clear h1 h2
        go_enter Tryz.func127, Tryz.ntmps127
        go_wp2
        go_ret
        exact ⟨rfl, rfl⟩
      · by_cases h4 : x = 45
        · subst h4
          clear h1 h2 h3
          go_enter Tryz.func127, Tryz.ntmps127
          go_wp2
          go_ret
          exact ⟨rfl, rfl⟩
        · have e : nbI x = false := by
            unfold nbI
            simp only [Bool.or_eq_false_iff, Bool.and_eq_false_iff, decide_eq_false_iff_not]
            omega
          rw [e]
          have e3 : (x == 46) = false := by rw [beq_eq_false_iff_ne]; exact h3
          have e4 : (x == 45) = false := by rw [beq_eq_false_iff_ne]; exact h4
          clear h3 h4
          by_cases a : 97 ≤ x
          · have b : ¬ x ≤ 122 := fun b => h1 ⟨a, b⟩
            have c : 48 ≤ x := by omega
            have d : ¬ x ≤ 57 := by omega
            clear h1 h2
            go_enter Tryz.func127, Tryz.ntmps127
            go_wp2
            go_ret
            exact ⟨rfl, rfl⟩
          · by_cases c : 48 ≤ x
            · have d : ¬ x ≤ 57 := fun d => h2 ⟨c, d⟩
              clear h1 h2
              go_enter Tryz.func127, Tryz.ntmps127
              go_wp2
              go_ret
              exact ⟨rfl, rfl⟩
            · clear h1 h2
              go_enter Tryz.func127, Tryz.ntmps127
              go_wp2
              go_ret
              exact ⟨rfl, rfl⟩
/-- P17.8: what a choice says of n things. -/
def shr (c : Int) (n : Nat) : Nat := ((if c < 0 then -(c + 1) else c) % ((n : Int) + 1)).toNat
theorem shr_le (c : Int) (n : Nat) : shr c n ≤ n := by
  unfold shr
  have h1 := Int.emod_nonneg (if c < 0 then -(c + 1) else c) (show ((n : Int) + 1) ≠ 0 by omega)
  have h2 := Int.emod_lt_of_pos (if c < 0 then -(c + 1) else c) (show 0 < ((n : Int) + 1) by omega)
  omega
theorem share_c (c : Int) (n : Nat) (w : World) (hc : -9223372036854775808 ≤ c ∧ c ≤ 9223372036854775807) (hn : n ≤ 4611686018427387904) :
    Calls Tryz.prog 57 #[.int .i64 c, .int .i64 (n : Int)] w fun e w' => e = .returned (.int .i64 (shr c n : Int)) ∧ w = w' := by
  obtain ⟨c1, c2⟩ := hc
  have hz : ((n : Int) + 1 == 0) = false := by rw [beq_eq_false_iff_ne]; omega
  by_cases h : c < 0
  · have R : Hid ((shr c n : Int) = (-(c + 1)) % ((n : Int) + 1)) := by
      unfold Hid shr
      rw [if_pos h]
      have h1 := Int.emod_nonneg (-(c + 1)) (show ((n : Int) + 1) ≠ 0 by omega)
      omega
    have h0 : 0 ≤ -(c + 1) := by omega
    go_enter Tryz.func57, Tryz.ntmps57
    go_wp2
    go_ret
    have e : -((c + 1).tmod ((n : Int) + 1)) = (shr c n : Int) := by rw [R.out, ← Int.tmod_eq_emod_of_nonneg h0, Int.neg_tmod]
    exact ⟨by rw [← e]; rfl, rfl⟩
  · have R : Hid ((shr c n : Int) = c % ((n : Int) + 1)) := by
      unfold Hid shr
      rw [if_neg h]
      have h1 := Int.emod_nonneg c (show ((n : Int) + 1) ≠ 0 by omega)
      omega
    have h0 : 0 ≤ c := by omega
    go_enter Tryz.func57, Tryz.ntmps57
    go_wp2
    go_ret
    exact ⟨by rw [R.out]; rfl, rfl⟩
/-- Is it a file's name? -/
def nmTo (l : List UInt8) : Nat → Bool
  | 0 => true
  | q + 1 => nmTo l q && nbI (l[q]!.toNat : Int)
def nmOk (l : List UInt8) : Bool := decide (1 ≤ l.length) && decide (l.length ≤ 32) && nmTo l l.length
theorem nmTo_stay {l : List UInt8} {p q : Nat} (hpq : p ≤ q) (h : nmTo l p = false) : nmTo l q = false := by
  induction q with
  | zero => have : p = 0 := by omega
            subst this; exact h
  | succ q ih =>
    by_cases e : p = q + 1
    · subst e; exact h
    · rw [nmTo, ih (by omega)]; rfl
set_option maxHeartbeats 1000000 in
theorem isName_c (s : ByteArray) (hs : s.size ≤ 4611686018427387904) (w : World) : Calls Tryz.prog 97 #[.string s] w fun e w' => e = .returned (.bool (nmOk s.data.toList)) ∧ w = w' := by
  have SZ : Hid (s.data.toList.length = s.size) := by unfold Hid; simp
  by_cases h1 : s.size < 1
  · have E : nmOk s.data.toList = false := by unfold nmOk; rw [SZ.out, decide_eq_false (show ¬ 1 ≤ s.size by omega)]; rfl
    rw [E]
    have h1i : (s.size : Int) < 1 := by omega
    clear h1
    go_enter Tryz.func97, Tryz.ntmps97
    go_wp2
    go_ret
    exact ⟨rfl, rfl⟩
  by_cases h2 : 32 < s.size
  · have E : nmOk s.data.toList = false := by unfold nmOk; rw [SZ.out, decide_eq_false (show ¬ s.size ≤ 32 by omega), Bool.and_false]; rfl
    rw [E]
    have h2i : (32 : Int) < (s.size : Int) := by omega
    have h1i : ¬ (s.size : Int) < 1 := by omega
    clear h1 h2
    go_enter Tryz.func97, Tryz.ntmps97
    go_wp2
    go_ret
    exact ⟨rfl, rfl⟩
  have E : Hid (nmOk s.data.toList = nmTo s.data.toList s.size) := by
    unfold Hid nmOk
    rw [SZ.out, decide_eq_true (show 1 ≤ s.size by omega), decide_eq_true (show s.size ≤ 32 by omega)]; rfl
  have h2i : ¬ (32 : Int) < (s.size : Int) := by omega
  have h1i : ¬ (s.size : Int) < 1 := by omega
  clear h1 h2
  go_enter Tryz.func97, Tryz.ntmps97
  go_wp2
  go_loopw [14] (fun iv w' => ∃ q : Nat, iv = .int .i64 (q : Int) ∧ q ≤ s.size ∧ Hid (nmTo s.data.toList q = true) ∧ w = w') (fun iv _ => s.size - (intOf iv).toNat)
  case atStart => exact ⟨0, rfl, Nat.zero_le _, rfl, rfl⟩
  case round =>
    obtain ⟨q, rfl, hq, X, rfl⟩ := hrel
    by_cases hqn : q < s.size
    · have hqi : (q : Int) < (s.size : Int) := by omega
      have hql : q < s.data.toList.length := by rw [SZ.out]; exact hqn
      have hx : s.data.toList[q]! = s[q] := by rw [getElem!_pos s.data.toList q hql]; rfl
      have S : Hid (nmTo s.data.toList (q + 1) = (nmTo s.data.toList q && nbI (s[q].toNat : Int))) := by unfold Hid; rw [nmTo, hx]
      have hb := s[q].toNat_lt
      have c := isNameByte_c (s[q].toNat : Int) w ⟨by omega, by omega⟩
      have ST : Hid (nmTo s.data.toList (q + 1) = false → nmTo s.data.toList s.size = false) := fun h => nmTo_stay hqn h
      clear hx
      cases hn : nbI (s[q].toNat : Int) with
      | true =>
        rw [hn] at c S
        have S2 : Hid (nmTo s.data.toList (q + 1) = true) := by unfold Hid; rw [S.out, X.out]; rfl
        clear hn S ST
        go_wp2_with fail
        refine c.mono ?_
        rintro e w' ⟨rfl, rfl⟩
        go_wp2
        go_roundw
        case rel => exact ⟨q + 1, by simp, hqn, S2.out, by first | rfl | trivial⟩
        case measure => simp [intOf]; omega
      | false =>
        rw [hn] at c S
        have S2 : Hid (nmOk s.data.toList = false) := by unfold Hid; rw [E.out, ST.out (by rw [S.out, Bool.and_false])]
        clear hn S ST
        go_wp2_with fail
        refine c.mono ?_
        rintro e w' ⟨rfl, rfl⟩
        go_wp2
        go_ret
        exact ⟨by rw [S2.out]; rfl, by first | rfl | trivial⟩
    · have e : q = s.size := by omega
      have Y : Hid (nmOk s.data.toList = true) := by unfold Hid; rw [E.out, ← e]; exact X.out
      have hqi : ¬ (q : Int) < (s.size : Int) := by omega
      clear e hqn
      go_wp2
      go_ret
      exact ⟨by rw [Y.out]; rfl, by first | rfl | trivial⟩
/-- The choice at a place. -/
def chc (l : List Int) (i : Nat) : Int := if i < l.length then l[i]! else 0
theorem choice_c {w : World} {v : Value} {l : List Int} (h : RdI w v l) (i : Nat) : Calls Tryz.prog 34 #[v, .int .i64 (i : Int)] w fun e w' => e = .returned (.int .i64 (chc l i)) ∧ w = w' := by
  obtain ⟨a, cap, rfl, ha⟩ := h
  by_cases hi : i < l.length
  · have E : chc l i = l[i]! := by unfold chc; rw [if_pos hi]
    rw [E]
    obtain ⟨b, o, rfl, hc⟩ := ha i hi
    have hii : (i : Int) < (l.length : Int) := by omega
    generalize l[i]! = x at *
    generalize l.length = n at *
    clear E ha
    go_enter Tryz.func34, Tryz.ntmps34
    go_wp2
    go_ret
    exact ⟨rfl, rfl⟩
  · have E : chc l i = 0 := by unfold chc; rw [if_neg hi]
    rw [E]
    have hii : ¬ (i : Int) < (l.length : Int) := by omega
    generalize l.length = n at *
    clear E ha
    go_enter Tryz.func34, Tryz.ntmps34
    go_wp2
    go_ret
    exact ⟨rfl, rfl⟩
end Go.Proofs.YtcbhhdjjanekaaaGreatDoor
