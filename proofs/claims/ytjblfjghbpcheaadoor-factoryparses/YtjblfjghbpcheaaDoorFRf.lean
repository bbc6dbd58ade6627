/- The reference: front, digits, one, ivf. -/
import Derived.Test.YtjblfjghbpcheaaDoorFSpW
namespace Go.Proofs.YtjblfjghbpcheaaDoor
open Go.Shelf Go.RowKit

set_option maxHeartbeats 1000000 in
theorem front_c (s p : ByteArray) (_hs : s.size ≤ 65536) (_hp : p.size ≤ 65536) (w : World) : Calls Tryd.prog 28 #[.string s, .string p] w fun e w' => e = .returned (.tuple #[Str (Lib.trimPrefix s.data.toList p.data.toList), .bool (Lib.hasPrefix s.data.toList p.data.toList)]) ∧ w' = w := by
  by_cases h1 : p.size ≤ s.size
  · cases h2 : ((s.extract 0 p.size).toList == p.toList)
    · have hh : Lib.hasPrefix s.data.toList p.data.toList = false := by rw [← Lib.hasPrefix_raw, h2]; simp
      go_enter Tryd.func28, Tryd.ntmps28
      go_wp2
      go_ret2
      refine ⟨?_, rfl⟩
      rw [hh, Str, Lib.trimPrefix_miss s p (by rw [h2]; simp)]
      rfl
    · have hh : Lib.hasPrefix s.data.toList p.data.toList = true := by rw [← Lib.hasPrefix_raw, h2]; simp [h1]
      go_enter Tryd.func28, Tryd.ntmps28
      go_wp2
      go_ret2
      refine ⟨?_, rfl⟩
      have := Lib.trimPrefix_hit s p h1 h2
      rw [hh, Str, this]
      rfl
  · have hh : Lib.hasPrefix s.data.toList p.data.toList = false := by rw [← Lib.hasPrefix_raw]; simp [h1]
    go_enter Tryd.func28, Tryd.ntmps28
    go_wp2
    go_ret2
    refine ⟨?_, rfl⟩
    rw [hh, Str, Lib.trimPrefix_miss s p (by simp [h1])]
    rfl

theorem vl_snoc (l : Bs) (c : UInt8) : vl (l ++ [c]) = 10 * vl l + (c.toNat - 48) := by
  unfold vl; rw [List.foldl_append]; rfl
theorem take_snoc (s : ByteArray) (k : Nat) (h : k < s.size) : s.data.toList.take (k + 1) = s.data.toList.take k ++ [s[k]] := by
  rw [List.take_succ_eq_append_getElem (by simpa using h)]; rfl
theorem vl_lt (l : Bs) (h : l.all isD = true) : vl l < 10 ^ l.length := by
  have := Lib.decFrom_lt l 0 _ (decFrom_fold l 0 h)
  simpa [vl] using this
theorem digO_no {t : Bs} (h : isN (t.take (nd t)) = false) : digO t = none := by unfold digO; rw [if_neg (by simp [h])]
theorem digO_yes {t : Bs} (h : isN (t.take (nd t)) = true) : digO t = some (vl (t.take (nd t)), t.drop (nd t)) := by unfold digO; rw [if_pos h]
/-- What digits tells. -/
def digR (t : Bs) : Value := match digO t with
  | some (n, r) => .tuple #[.int .i64 (n : Int), Str r, .bool true]
  | none => .tuple #[.int .i64 0, Str t, .bool false]
theorem mk_str (s : ByteArray) : Value.string s = Str s.data.toList := by cases s; rfl
theorem take_head {l : Bs} {k : Nat} (h : 0 < k) : (l.take k).head? = l.head? := by
  cases l with
  | nil => simp
  | cons a r => obtain ⟨j, rfl⟩ : ∃ j, k = j + 1 := ⟨k - 1, by omega⟩
                rfl

theorem dig_num {c : UInt8} {m : Nat} (d1 : 48 ≤ (c.toNat : Int)) (d2 : (c.toNat : Int) ≤ 57) (_ : m < 1000000000) : Value.int .i64 (10 * (m : Int) + ((c.toNat : Int) - 48)) = .int .i64 ((10 * m + (c.toNat - 48) : Nat) : Int) := by
  congr 1
  omega
theorem digN (s : ByteArray) (k : Nat) (hk : nd s.data.toList = k) (h : k < 1 ∨ 9 < k ∨ (1 < k ∧ ∃ hp : 0 < s.size, (s[0].toNat : Int) = 48)) : digR s.data.toList = .tuple #[.int .i64 0, .string s, .bool false] := by
  have hle := nd_le s.data.toList
  have hn : isN (s.data.toList.take (nd s.data.toList)) = false := by
    unfold isN
    have e : (s.data.toList.take (nd s.data.toList)).length = k := by rw [List.length_take, hk]; omega
    rcases h with h | h | ⟨h, hp, h2⟩
    · rw [e]; simp; omega
    · rw [e]; simp; omega
    · have e2 : (s.data.toList.take (nd s.data.toList)).head? = some 48 := by
        rw [take_head (by omega), head_list s hp, (eq48 _).2 h2]
      have e3 : (s.data.toList.take (nd s.data.toList) == [48]) = false := by
        rw [beq_eq_false_iff_ne]; intro e4; rw [e4] at e; simp at e; omega
      rw [e2, e3]; simp
  unfold digR
  rw [digO_no hn, mk_str s]
theorem digY (s : ByteArray) (k : Nat) (hk : nd s.data.toList = k) (h1 : ¬ k < 1) (h2 : ¬ 9 < k) (h3 : ¬ (1 < k ∧ ∃ hp : 0 < s.size, (s[0].toNat : Int) = 48)) : digR s.data.toList = .tuple #[.int .i64 (vl (s.data.toList.take k) : Int), .string (s.extract k s.size), .bool true] := by
  have hle := nd_size s
  have hp : 0 < s.size := by omega
  have e : (s.data.toList.take (nd s.data.toList)).length = k := by rw [List.length_take, len_list, hk]; omega
  have hn : isN (s.data.toList.take (nd s.data.toList)) = true := by
    unfold isN
    rw [e, take_head (by omega), head_list s hp]
    have a1 : decide (1 ≤ k) = true := by simp; omega
    have a2 : decide (k ≤ 9) = true := by simp; omega
    rw [a1, a2]
    simp only [Bool.true_and]
    by_cases h48 : s[0] = 48
    · have hk1 : k = 1 := by
        by_cases h : 1 < k
        · exact absurd ⟨h, hp, (eq48 _).1 h48⟩ h3
        · omega
      have : s.data.toList.take (nd s.data.toList) = [48] := by
        have hh := take_head (l := s.data.toList) (k := nd s.data.toList) (by omega)
        rw [head_list s hp, h48] at hh
        match hl : s.data.toList.take (nd s.data.toList), e with
        | [], e => simp at e; omega
        | [x], _ => rw [hl] at hh; simp at hh; rw [hh]
        | _ :: _ :: _, e => simp at e; omega
      rw [this]; rfl
    · have : (some s[0] == some (48 : UInt8)) = false := by simpa using h48
      rw [this]; simp
  unfold digR
  rw [digO_yes hn, hk]
  have e2 : (s.extract k s.size).data.toList = s.data.toList.drop k := by
    rw [Lib.extract_eq]
    exact List.take_of_length_le (by rw [List.length_drop, len_list]; exact Nat.le_refl _)
  rw [mk_str (s.extract k s.size), e2]
set_option maxHeartbeats 4000000 in
theorem digits_c (s : ByteArray) (hs : s.size ≤ 65536) (w : World) : Calls Tryd.prog 29 #[.string s] w fun e w' => e = .returned (digR s.data.toList) ∧ Below w.heap.size w w' := by
  have hle := nd_size s
  have hB := nd_byte s
  have DN : Hid (∀ h : nd s.data.toList < 1 ∨ 9 < nd s.data.toList ∨ (1 < nd s.data.toList ∧ ∃ hp : 0 < s.size, (s[0].toNat : Int) = 48), digR s.data.toList = .tuple #[.int .i64 0, .string s, .bool false]) := fun h => digN s _ rfl h
  have DY : Hid (¬ nd s.data.toList < 1 → ¬ 9 < nd s.data.toList → ¬ (1 < nd s.data.toList ∧ ∃ hp : 0 < s.size, (s[0].toNat : Int) = 48) → digR s.data.toList = .tuple #[.int .i64 (vl (s.data.toList.take (nd s.data.toList)) : Int), .string (s.extract (nd s.data.toList) s.size), .bool true]) := fun a b c => digY s _ rfl a b c
  have hD : Hid (∀ q, q < nd s.data.toList → (h : q < s.size) → 48 ≤ (s[q].toNat : Int) ∧ (s[q].toNat : Int) ≤ 57) := fun q hq h => (nd_byte s q (by omega) h).2 hq
  have VL : Hid (∀ q, q < nd s.data.toList → nd s.data.toList ≤ 9 → vl (s.data.toList.take q) < 1000000000) := fun q hq h9 => by
    have h1 : (s.data.toList.take q).all isD = true := by
      have e : s.data.toList.take q = (s.data.toList.take (nd s.data.toList)).take q := by rw [List.take_take, Nat.min_eq_left (Nat.le_of_lt hq)]
      rw [e, List.all_eq_true]
      intro x hx
      exact List.all_eq_true.1 (nd_all s.data.toList) x (List.mem_of_mem_take hx)
    have h2 := vl_lt _ h1
    have h3 : (s.data.toList.take q).length ≤ 8 := by rw [List.length_take]; omega
    have h4 : 10 ^ (s.data.toList.take q).length ≤ 10 ^ 8 := Nat.pow_le_pow_right (by decide) h3
    have h5 : (10 : Nat) ^ 8 = 100000000 := by decide
    omega
  generalize nd s.data.toList = N at *
  go_enter Tryd.func29, Tryd.ntmps29
  go_wp2
  go_loop [6] (fun i => ∃ k : Nat, k ≤ N ∧ i = .int .i64 (k : Int)) (fun i => s.size - (intOf i).toNat)
  case atStart => exact ⟨0, Nat.zero_le _, rfl⟩
  case round =>
    obtain ⟨k, hk, rfl⟩ := hrel
    by_cases hlt : k < s.size
    · have hb := hB k hk hlt
      clear hB
      by_cases hn : k < N
      · obtain ⟨d1, d2⟩ := hb.2 hn
        clear hb
        go_wp2
        go_round
        case rel => exact ⟨k + 1, hn, by go_num⟩
        case measure => simp [intOf]; omega
      · obtain rfl : k = N := by omega
        by_cases d1 : 48 ≤ (s[k].toNat : Int)
        · have d2 : ¬ (s[k].toNat : Int) ≤ 57 := fun h => hn (hb.1 ⟨d1, h⟩)
          clear hb hn
          by_cases n1 : k < 1
          · have E : Hid (digR s.data.toList = .tuple #[.int .i64 0, .string s, .bool false]) := DN.out (Or.inl n1)
            go_wp2
            go_ret3
            exact ⟨by rw [E.out]; rfl, Below.refl _ _⟩
          by_cases n2 : 9 < k
          · have E : Hid (digR s.data.toList = .tuple #[.int .i64 0, .string s, .bool false]) := DN.out (Or.inr (Or.inl n2))
            go_wp2
            go_ret3
            exact ⟨by rw [E.out]; rfl, Below.refl _ _⟩
          have hp : 0 < s.size := by omega
          by_cases n3 : 1 < k ∧ (s[0].toNat : Int) = 48
          · have E : Hid (digR s.data.toList = .tuple #[.int .i64 0, .string s, .bool false]) := DN.out (Or.inr (Or.inr ⟨n3.1, hp, n3.2⟩))
            obtain ⟨n4, n5⟩ := n3
            have n6 : ((s[0].toNat : Int) == 48) = true := by simpa using n5
            clear n5
            go_wp2
            go_ret3
            exact ⟨by rw [E.out]; rfl, Below.refl _ _⟩
          have E : Hid (digR s.data.toList = .tuple #[.int .i64 (vl (s.data.toList.take k) : Int), .string (s.extract k s.size), .bool true]) := DY.out n1 n2 (fun h => n3 ⟨h.1, h.2.2⟩)
          have main : (1 < k → ((s[0].toNat : Int) == 48) = false) := fun h => by simpa using (fun e => n3 ⟨h, e⟩)
          by_cases n7 : 1 < k
          · have n8 := main n7
            clear n3 main DN DY
            go_wp2
            go_loop [5, 7] (fun nv iv => ∃ (q m : Nat), q ≤ k ∧ nv = .int .i64 (m : Int) ∧ iv = .int .i64 (q : Int) ∧ Hid (m = vl (s.data.toList.take q))) (fun _ iv => k - (intOf iv).toNat)
            case atStart => exact ⟨0, 0, Nat.zero_le _, rfl, rfl, rfl⟩
            case round =>
              obtain ⟨q, m, hq, rfl, rfl, hm⟩ := hrel
              by_cases hqk : q < k
              · have hqs : q < s.size := by omega
                obtain ⟨d1, d2⟩ := hD.out q hqk hqs
                have hb : m < 1000000000 := by
                  have := VL.out q (by omega)
                  rw [← hm.out] at this
                  omega
                have hm' : Hid (10 * m + (s[q].toNat - 48) = vl (s.data.toList.take (q + 1))) := by unfold Hid; rw [take_snoc s q hqs, vl_snoc, ← hm.out]
                clear hm
                go_wp2
                go_round
                case rel => exact ⟨q + 1, 10 * m + (s[q].toNat - 48), hqk, dig_num d1 d2 hb, by go_num, hm'⟩
                case measure => simp [intOf]; omega
              · obtain rfl : q = k := by omega
                have hks : (q : Int) ≤ (s.size : Int) := by omega
                go_wp2
                go_quiet (fail)
                go_wp2
                go_ret3
                exact ⟨by rw [E.out, ← hm.out]; rfl, below_drewN (Below.refl _ _) _⟩
          · skip
            clear n3 main DN DY
            go_wp2
            go_loop [5, 7] (fun nv iv => ∃ (q m : Nat), q ≤ k ∧ nv = .int .i64 (m : Int) ∧ iv = .int .i64 (q : Int) ∧ Hid (m = vl (s.data.toList.take q))) (fun _ iv => k - (intOf iv).toNat)
            case atStart => exact ⟨0, 0, Nat.zero_le _, rfl, rfl, rfl⟩
            case round =>
              obtain ⟨q, m, hq, rfl, rfl, hm⟩ := hrel
              by_cases hqk : q < k
              · have hqs : q < s.size := by omega
                obtain ⟨d1, d2⟩ := hD.out q hqk hqs
                have hb : m < 1000000000 := by
                  have := VL.out q (by omega)
                  rw [← hm.out] at this
                  omega
                have hm' : Hid (10 * m + (s[q].toNat - 48) = vl (s.data.toList.take (q + 1))) := by unfold Hid; rw [take_snoc s q hqs, vl_snoc, ← hm.out]
                clear hm
                go_wp2
                go_round
                case rel => exact ⟨q + 1, 10 * m + (s[q].toNat - 48), hqk, dig_num d1 d2 hb, by go_num, hm'⟩
                case measure => simp [intOf]; omega
              · obtain rfl : q = k := by omega
                have hks : (q : Int) ≤ (s.size : Int) := by omega
                go_wp2
                go_quiet (fail)
                go_wp2
                go_ret3
                exact ⟨by rw [E.out, ← hm.out]; rfl, below_drewN (Below.refl _ _) _⟩
        · clear hb hn
          by_cases n1 : k < 1
          · have E : Hid (digR s.data.toList = .tuple #[.int .i64 0, .string s, .bool false]) := DN.out (Or.inl n1)
            go_wp2
            go_ret3
            exact ⟨by rw [E.out]; rfl, Below.refl _ _⟩
          by_cases n2 : 9 < k
          · have E : Hid (digR s.data.toList = .tuple #[.int .i64 0, .string s, .bool false]) := DN.out (Or.inr (Or.inl n2))
            go_wp2
            go_ret3
            exact ⟨by rw [E.out]; rfl, Below.refl _ _⟩
          have hp : 0 < s.size := by omega
          by_cases n3 : 1 < k ∧ (s[0].toNat : Int) = 48
          · have E : Hid (digR s.data.toList = .tuple #[.int .i64 0, .string s, .bool false]) := DN.out (Or.inr (Or.inr ⟨n3.1, hp, n3.2⟩))
            obtain ⟨n4, n5⟩ := n3
            have n6 : ((s[0].toNat : Int) == 48) = true := by simpa using n5
            clear n5
            go_wp2
            go_ret3
            exact ⟨by rw [E.out]; rfl, Below.refl _ _⟩
          have E : Hid (digR s.data.toList = .tuple #[.int .i64 (vl (s.data.toList.take k) : Int), .string (s.extract k s.size), .bool true]) := DY.out n1 n2 (fun h => n3 ⟨h.1, h.2.2⟩)
          have main : (1 < k → ((s[0].toNat : Int) == 48) = false) := fun h => by simpa using (fun e => n3 ⟨h, e⟩)
          by_cases n7 : 1 < k
          · have n8 := main n7
            clear n3 main DN DY
            go_wp2
            go_loop [5, 7] (fun nv iv => ∃ (q m : Nat), q ≤ k ∧ nv = .int .i64 (m : Int) ∧ iv = .int .i64 (q : Int) ∧ Hid (m = vl (s.data.toList.take q))) (fun _ iv => k - (intOf iv).toNat)
            case atStart => exact ⟨0, 0, Nat.zero_le _, rfl, rfl, rfl⟩
            case round =>
              obtain ⟨q, m, hq, rfl, rfl, hm⟩ := hrel
              by_cases hqk : q < k
              · have hqs : q < s.size := by omega
                obtain ⟨d1, d2⟩ := hD.out q hqk hqs
                have hb : m < 1000000000 := by
                  have := VL.out q (by omega)
                  rw [← hm.out] at this
                  omega
                have hm' : Hid (10 * m + (s[q].toNat - 48) = vl (s.data.toList.take (q + 1))) := by unfold Hid; rw [take_snoc s q hqs, vl_snoc, ← hm.out]
                clear hm
                go_wp2
                go_round
                case rel => exact ⟨q + 1, 10 * m + (s[q].toNat - 48), hqk, dig_num d1 d2 hb, by go_num, hm'⟩
                case measure => simp [intOf]; omega
              · obtain rfl : q = k := by omega
                have hks : (q : Int) ≤ (s.size : Int) := by omega
                go_wp2
                go_quiet (fail)
                go_wp2
                go_ret3
                exact ⟨by rw [E.out, ← hm.out]; rfl, below_drewN (Below.refl _ _) _⟩
          · skip
            clear n3 main DN DY
            go_wp2
            go_loop [5, 7] (fun nv iv => ∃ (q m : Nat), q ≤ k ∧ nv = .int .i64 (m : Int) ∧ iv = .int .i64 (q : Int) ∧ Hid (m = vl (s.data.toList.take q))) (fun _ iv => k - (intOf iv).toNat)
            case atStart => exact ⟨0, 0, Nat.zero_le _, rfl, rfl, rfl⟩
            case round =>
              obtain ⟨q, m, hq, rfl, rfl, hm⟩ := hrel
              by_cases hqk : q < k
              · have hqs : q < s.size := by omega
                obtain ⟨d1, d2⟩ := hD.out q hqk hqs
                have hb : m < 1000000000 := by
                  have := VL.out q (by omega)
                  rw [← hm.out] at this
                  omega
                have hm' : Hid (10 * m + (s[q].toNat - 48) = vl (s.data.toList.take (q + 1))) := by unfold Hid; rw [take_snoc s q hqs, vl_snoc, ← hm.out]
                clear hm
                go_wp2
                go_round
                case rel => exact ⟨q + 1, 10 * m + (s[q].toNat - 48), hqk, dig_num d1 d2 hb, by go_num, hm'⟩
                case measure => simp [intOf]; omega
              · obtain rfl : q = k := by omega
                have hks : (q : Int) ≤ (s.size : Int) := by omega
                go_wp2
                go_quiet (fail)
                go_wp2
                go_ret3
                exact ⟨by rw [E.out, ← hm.out]; rfl, below_drewN (Below.refl _ _) _⟩
    · obtain rfl : k = N := by omega
      clear hB
      by_cases n1 : k < 1
      · have E : Hid (digR s.data.toList = .tuple #[.int .i64 0, .string s, .bool false]) := DN.out (Or.inl n1)
        go_wp2
        go_ret3
        exact ⟨by rw [E.out]; rfl, Below.refl _ _⟩
      by_cases n2 : 9 < k
      · have E : Hid (digR s.data.toList = .tuple #[.int .i64 0, .string s, .bool false]) := DN.out (Or.inr (Or.inl n2))
        go_wp2
        go_ret3
        exact ⟨by rw [E.out]; rfl, Below.refl _ _⟩
      have hp : 0 < s.size := by omega
      by_cases n3 : 1 < k ∧ (s[0].toNat : Int) = 48
      · have E : Hid (digR s.data.toList = .tuple #[.int .i64 0, .string s, .bool false]) := DN.out (Or.inr (Or.inr ⟨n3.1, hp, n3.2⟩))
        obtain ⟨n4, n5⟩ := n3
        have n6 : ((s[0].toNat : Int) == 48) = true := by simpa using n5
        clear n5
        go_wp2
        go_ret3
        exact ⟨by rw [E.out]; rfl, Below.refl _ _⟩
      have E : Hid (digR s.data.toList = .tuple #[.int .i64 (vl (s.data.toList.take k) : Int), .string (s.extract k s.size), .bool true]) := DY.out n1 n2 (fun h => n3 ⟨h.1, h.2.2⟩)
      have main : (1 < k → ((s[0].toNat : Int) == 48) = false) := fun h => by simpa using (fun e => n3 ⟨h, e⟩)
      by_cases n7 : 1 < k
      · have n8 := main n7
        clear n3 main DN DY
        go_wp2
        go_loop [5, 7] (fun nv iv => ∃ (q m : Nat), q ≤ k ∧ nv = .int .i64 (m : Int) ∧ iv = .int .i64 (q : Int) ∧ Hid (m = vl (s.data.toList.take q))) (fun _ iv => k - (intOf iv).toNat)
        case atStart => exact ⟨0, 0, Nat.zero_le _, rfl, rfl, rfl⟩
        case round =>
          obtain ⟨q, m, hq, rfl, rfl, hm⟩ := hrel
          by_cases hqk : q < k
          · have hqs : q < s.size := by omega
            obtain ⟨d1, d2⟩ := hD.out q hqk hqs
            have hb : m < 1000000000 := by
              have := VL.out q (by omega)
              rw [← hm.out] at this
              omega
            have hm' : Hid (10 * m + (s[q].toNat - 48) = vl (s.data.toList.take (q + 1))) := by unfold Hid; rw [take_snoc s q hqs, vl_snoc, ← hm.out]
            clear hm
            go_wp2
            go_round
            case rel => exact ⟨q + 1, 10 * m + (s[q].toNat - 48), hqk, dig_num d1 d2 hb, by go_num, hm'⟩
            case measure => simp [intOf]; omega
          · obtain rfl : q = k := by omega
            have hks : (q : Int) ≤ (s.size : Int) := by omega
            go_wp2
            go_quiet (fail)
            go_wp2
            go_ret3
            exact ⟨by rw [E.out, ← hm.out]; rfl, below_drewN (Below.refl _ _) _⟩
      · skip
        clear n3 main DN DY
        go_wp2
        go_loop [5, 7] (fun nv iv => ∃ (q m : Nat), q ≤ k ∧ nv = .int .i64 (m : Int) ∧ iv = .int .i64 (q : Int) ∧ Hid (m = vl (s.data.toList.take q))) (fun _ iv => k - (intOf iv).toNat)
        case atStart => exact ⟨0, 0, Nat.zero_le _, rfl, rfl, rfl⟩
        case round =>
          obtain ⟨q, m, hq, rfl, rfl, hm⟩ := hrel
          by_cases hqk : q < k
          · have hqs : q < s.size := by omega
            obtain ⟨d1, d2⟩ := hD.out q hqk hqs
            have hb : m < 1000000000 := by
              have := VL.out q (by omega)
              rw [← hm.out] at this
              omega
            have hm' : Hid (10 * m + (s[q].toNat - 48) = vl (s.data.toList.take (q + 1))) := by unfold Hid; rw [take_snoc s q hqs, vl_snoc, ← hm.out]
            clear hm
            go_wp2
            go_round
            case rel => exact ⟨q + 1, 10 * m + (s[q].toNat - 48), hqk, dig_num d1 d2 hb, by go_num, hm'⟩
            case measure => simp [intOf]; omega
          · obtain rfl : q = k := by omega
            have hks : (q : Int) ≤ (s.size : Int) := by omega
            go_wp2
            go_quiet (fail)
            go_wp2
            go_ret3
            exact ⟨by rw [E.out, ← hm.out]; rfl, below_drewN (Below.refl _ _) _⟩

end Go.Proofs.YtjblfjghbpcheaaDoor
