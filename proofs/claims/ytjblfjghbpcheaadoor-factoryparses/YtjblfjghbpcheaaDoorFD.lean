/- factory.digitsOf, isNumber; the reference's front and digits. -/
import Derived.Test.YtjblfjghbpcheaaDoorFB
namespace Go.Proofs.YtjblfjghbpcheaaDoor
open Go.RowKit

theorem nd_at : ∀ (l : Bs) (k : Nat), k ≤ nd l → (hk : k < l.length) → (isD l[k] = true ↔ k < nd l)
  | [], k, _, hk => by simp at hk
  | c :: r, 0, _, _ => by
    by_cases h : isD c = true
    · simp [nd, h]
    · simp [nd, h]
  | c :: r, k + 1, h1, hk => by
    have hc : isD c = true := by
      by_cases h : isD c = true
      · exact h
      · simp [nd, h] at h1
    have e : nd (c :: r) = nd r + 1 := by simp [nd, hc]
    rw [e] at h1 ⊢
    have := nd_at r k (by omega) (by simpa using hk)
    simp only [List.getElem_cons_succ]
    rw [this]; omega
theorem len_list (s : ByteArray) : s.data.toList.length = s.size := by simp
theorem isD_Int (c : UInt8) : isD c = true ↔ 48 ≤ (c.toNat : Int) ∧ (c.toNat : Int) ≤ 57 := by rw [isD_iff]; omega
theorem nd_byte (s : ByteArray) (k : Nat) (h1 : k ≤ nd s.data.toList) (hk : k < s.size) : (48 ≤ (s[k].toNat : Int) ∧ (s[k].toNat : Int) ≤ 57) ↔ k < nd s.data.toList := by
  rw [← isD_Int]
  have := nd_at s.data.toList k h1 (by rw [len_list]; exact hk)
  rw [← this]; rfl
theorem nd_size (s : ByteArray) : nd s.data.toList ≤ s.size := by have := nd_le s.data.toList; rw [len_list] at this; exact this

set_option maxHeartbeats 1000000 in
theorem digitsOf_c (s : ByteArray) (w : World) (hs : s.size ≤ 65536) : Calls Tryd.prog 24 #[.string s] w fun e w' => e = .returned (.int .i64 (nd s.data.toList : Int)) ∧ w' = w := by
  have hle := nd_size s
  have hB := nd_byte s
  generalize nd s.data.toList = N at *
  go_enter Tryd.func24, Tryd.ntmps24
  go_wp2
  go_loop [3] (fun i => ∃ k : Nat, k ≤ N ∧ i = .int .i64 (k : Int)) (fun i => s.size - (intOf i).toNat)
  case atStart => exact ⟨0, Nat.zero_le _, rfl⟩
  case round =>
    obtain ⟨k, hk, rfl⟩ := hrel
    by_cases hlt : k < s.size
    · have hb := hB k hk hlt
      clear hB
      by_cases hn : k < N
      · obtain ⟨d1, d2⟩ := hb.2 hn
        clear hb
        go_wp2
        go_round
        case rel => exact ⟨k + 1, hn, by go_num⟩
        case measure => simp [intOf]; omega
      · obtain rfl : k = N := by omega
        by_cases d1 : 48 ≤ (s[k].toNat : Int)
        · have d2 : ¬ (s[k].toNat : Int) ≤ 57 := fun h => hn (hb.1 ⟨d1, h⟩)
          clear hb
          go_wp2
          go_ret
          exact ⟨rfl, rfl⟩
        · clear hb
          go_wp2
          go_ret
          exact ⟨rfl, rfl⟩
    · obtain rfl : k = N := by omega
      clear hB
      go_wp2
      go_ret
      exact ⟨rfl, rfl⟩

theorem head_list (s : ByteArray) (h : 0 < s.size) : s.data.toList.head? = some s[0] := by
  have : 0 < s.data.toList.length := by rw [len_list]; exact h
  rw [List.head?_eq_getElem?, List.getElem?_eq_getElem this]; rfl
theorem eq48 (c : UInt8) : (c = 48) ↔ (c.toNat : Int) = 48 := by
  constructor
  · intro h; subst h; rfl
  · intro h; apply UInt8.toNat_inj.1; show c.toNat = 48; omega
theorem ret_bool {a b : Bool} (h : a = b) : Ending.returned (.bool a) = .returned (.bool b) := by rw [h]
set_option maxHeartbeats 1000000 in
theorem isNumber_c (s : ByteArray) (w : World) (hs : s.size ≤ 65536) : Calls Tryd.prog 25 #[.string s] w fun e w' => e = .returned (.bool (isN s.data.toList)) ∧ w' = w := by
  by_cases h1 : s.size < 1
  · have F : Hid (isN s.data.toList = false) := by unfold Hid isN; rw [len_list s]; simp; omega
    go_enter Tryd.func25, Tryd.ntmps25
    go_wp2
    go_ret
    exact ⟨ret_bool F.out.symm, rfl⟩
  by_cases h2 : 9 < s.size
  · have F : Hid (isN s.data.toList = false) := by unfold Hid isN; rw [len_list s]; simp; omega
    go_enter Tryd.func25, Tryd.ntmps25
    go_wp2
    go_ret
    exact ⟨ret_bool F.out.symm, rfl⟩
  have hp : 0 < s.size := by omega
  have F : Hid (isN s.data.toList = ((s.data.toList == [48]) || !((s[0].toNat : Int) == 48))) := by
    unfold Hid isN
    rw [len_list s, head_list s hp]
    have e1 : decide (1 ≤ s.size) = true := by simp; omega
    have e2 : decide (s.size ≤ 9) = true := by simp; omega
    have e3 : (some s[0] == some 48) = ((s[0].toNat : Int) == 48) := by
      rw [Bool.eq_iff_iff, beq_iff_eq, beq_iff_eq, Option.some.injEq, eq48]
    rw [e1, e2, e3]; simp
  have e0 : s.toList = s.data.toList := Lib.toList_data s
  cases h3 : (s.toList == [48]) with
  | true =>
    rw [← e0, h3] at F
    clear e0
    go_enter Tryd.func25, Tryd.ntmps25
    go_wp2
    go_ret
    exact ⟨ret_bool (by rw [← Lib.toList_data, F.out]; rfl), rfl⟩
  | false =>
    rw [← e0, h3] at F
    clear e0
    go_enter Tryd.func25, Tryd.ntmps25
    go_wp2
    go_ret
    exact ⟨ret_bool (by rw [← Lib.toList_data, F.out]; rfl), rfl⟩

end Go.Proofs.YtjblfjghbpcheaaDoor
