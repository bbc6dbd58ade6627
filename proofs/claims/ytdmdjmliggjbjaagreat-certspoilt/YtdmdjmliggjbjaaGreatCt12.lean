import Derived.Test.YtdmdjmliggjbjaaGreatCt3
import Derived.Test.YtdmdjmliggjbjaaGreatCt2
/- The reference's plus, as a contract. -/
namespace Go.Proofs.YtdmdjmliggjbjaaGreat
open Go.RowKit

theorem Gr.store9 {a w : World} (h : Gr a w) {B : Nat} (hB : a.heap.size ≤ B) (x0 x1 x2 x3 x4 x5 x6 x7 x8 : Value) :
    Gr a ((((((((((w.setCell ⟨B, 0, none⟩ x0).setCell ⟨B, 1, none⟩ x1).setCell ⟨B, 2, none⟩ x2).setCell ⟨B, 3, none⟩ x3).setCell ⟨B, 4, none⟩ x4).setCell ⟨B, 5, none⟩ x5).setCell ⟨B, 6, none⟩ x6).setCell ⟨B, 7, none⟩ x7).setCell ⟨B, 8, none⟩ x8)) :=
  (((((((((h.setCell (p := ⟨B, 0, none⟩) hB x0).setCell (p := ⟨B, 1, none⟩) hB x1).setCell (p := ⟨B, 2, none⟩) hB x2).setCell (p := ⟨B, 3, none⟩) hB x3).setCell (p := ⟨B, 4, none⟩) hB x4).setCell (p := ⟨B, 5, none⟩) hB x5).setCell (p := ⟨B, 6, none⟩) hB x6).setCell (p := ⟨B, 7, none⟩) hB x7).setCell (p := ⟨B, 8, none⟩) hB x8)
theorem dd_nat (m k : Nat) : ∃ e : Nat, dd m k = (e : Int) ∧ e < 65536 ∧ e = m / 65536 ^ k % 65536 := ⟨_, rfl, Nat.mod_lt _ (by omega), rfl⟩
theorem pow_past (k : Nat) (h : 8 ≤ k) (c m : Nat) (hm : m < 340282366920938463463374607431768211456) (hc : 0 < c) :
    (m + c * 65536 ^ k) % 340282366920938463463374607431768211456 = m ∧ 340282366920938463463374607431768211456 ≤ m + c * 65536 ^ k := by
  obtain ⟨j, rfl⟩ : ∃ j, k = 8 + j := ⟨k - 8, by omega⟩
  have e : c * 65536 ^ (8 + j) = 340282366920938463463374607431768211456 * (c * 65536 ^ j) := by
    rw [Nat.pow_add, show (65536 : Nat) ^ 8 = 340282366920938463463374607431768211456 by decide, Nat.mul_left_comm]
  have hp : 0 < c * 65536 ^ j := Nat.mul_pos hc (Nat.pow_pos (by omega))
  rw [e]
  refine ⟨by rw [Nat.add_mul_mod_self_left]; exact Nat.mod_eq_of_lt hm, ?_⟩
  have : 340282366920938463463374607431768211456 * 1 ≤ 340282366920938463463374607431768211456 * (c * 65536 ^ j) := Nat.mul_le_mul_left _ hp
  omega

/-- What one round makes of the number. -/
theorem plus_round (m c k : Nat) (hm : m < 340282366920938463463374607431768211456) (hk : k < 8) :
    setD m k ((c + m / 65536 ^ k % 65536) % 65536) + (c + m / 65536 ^ k % 65536) / 65536 * 65536 ^ (k + 1) = m + c * 65536 ^ k := by
  obtain ⟨_, _, _, h⟩ := setD_spec m k ((c + m / 65536 ^ k % 65536) % 65536) hm hk (Nat.mod_lt _ (by omega))
  generalize m / 65536 ^ k % 65536 = e at *
  have h2 : (c + e) / 65536 * 65536 ^ (k + 1) + (c + e) % 65536 * 65536 ^ k = (c + e) * 65536 ^ k := by
    rw [Nat.pow_succ, ← Nat.mul_assoc, Nat.mul_right_comm, ← Nat.add_mul]
    congr 1; omega
  rw [Nat.add_mul] at h2
  omega

set_option maxHeartbeats 4000000 in
theorem plus_any (n : Nat) (hn : n < 340282366920938463463374607431768211456) (o : Bool) (at' v : Nat) (hat : at' ≤ 14) (hv : v < 8589934592) (w : World) :
    Calls Tryz.prog 121 #[Nm n o, .int .i64 (at' : Int), .int .i64 (v : Int)] w fun e w' =>
      e = .returned (Nm ((n + v * 65536 ^ at') % 340282366920938463463374607431768211456) (o || decide (340282366920938463463374607431768211456 ≤ n + v * 65536 ^ at'))) ∧ Gr w w' := by
  go_enter Tryz.func121, Tryz.ntmps121
  go_wp2
  go_loopw [2, 7] (fun vv iv w' => ∃ m c k : Nat, vv = .int .i64 (c : Int) ∧ iv = .int .i64 (k : Int) ∧ k ≤ 15 ∧ m < 340282366920938463463374607431768211456 ∧ c < 8589934592 ∧ Hid (m + c * 65536 ^ k = n + v * 65536 ^ at') ∧ Gr w w' ∧ NumAt w' w.heap.size m o ∧ NumAt w' (w.heap.size + 1) 0 false) (fun _ iv _ => 16 - (intOf iv).toNat)
  case atStart =>
    refine ⟨n, v, at', rfl, rfl, by omega, hn, hv, rfl, ((Gr.refl _).alloc _ _).alloc _ _, (NumAt.new w n o 105).call ((Gr.refl _).alloc _ _), ?_⟩
    have := NumAt.new (w.alloc (.cells #[.int .i64 (dd n 0), .int .i64 (dd n 1), .int .i64 (dd n 2), .int .i64 (dd n 3), .int .i64 (dd n 4), .int .i64 (dd n 5), .int .i64 (dd n 6), .int .i64 (dd n 7), .bool o] 105)) 0 false 105
    rw [World.size_alloc] at this
    exact this
  case round =>
    obtain ⟨m, c, k, rfl, rfl, hk, hm, hc, X, hG, hN, hR⟩ := hrel
    obtain ⟨r0, r1, r2, r3, r4, r5, r6, r7, r8⟩ := hR.cells
    obtain ⟨f0, f1, f2, f3, f4, f5, f6, f7, f8⟩ := hR.open9
    by_cases hc0 : c = 0
    · subst hc0
      obtain ⟨c0, c1, c2, c3, c4, c5, c6, c7, c8⟩ := hN.cells
      have E : Hid (m = (n + v * 65536 ^ at') % 340282366920938463463374607431768211456 ∧ o = (o || decide (340282366920938463463374607431768211456 ≤ n + v * 65536 ^ at'))) := by
        have := X.out
        rw [Nat.zero_mul, Nat.add_zero] at this
        rw [← this]
        exact ⟨(Nat.mod_eq_of_lt hm).symm, by rw [decide_eq_false (by omega)]; simp⟩
      clear X hN hR
      go_wp2
      refine bodyPost_ret (v := Nm m o) (by simp [results, Tryz.results121, go_sem, r0, r1, r2, r3, r4, r5, r6, r7, r8]) rfl ⟨by rw [← E.out.1, ← E.out.2], ?_⟩
      exact hG.store9 (by omega) _ _ _ _ _ _ _ _ _
    · by_cases hk8 : k < 8
      · obtain ⟨e, he, he1, he2⟩ := dd_nat m k
        have hcell := hN.d k hk8
        rw [he] at hcell
        have hfr := hN.f k (by omega)
        obtain ⟨s1, s2, s3, _⟩ := setD_spec m k ((c + e) % 65536) hm hk8 (by omega)
        have hpr := plus_round m c k hm hk8
        rw [← he2] at hpr
        have P : Hid (setD m k ((c + e) % 65536) + (c + e) / 65536 * 65536 ^ (k + 1) = m + c * 65536 ^ k) := hpr
        have S1 : Hid (dd (setD m k ((c + e) % 65536)) k = (((c + e) % 65536 : Nat) : Int)) := s1
        have S2 : Hid (∀ j, j < 8 → j ≠ k → dd (setD m k ((c + e) % 65536)) j = dd m j) := s2
        clear he he2 hpr s1 s2 r0 r1 r2 r3 r4 r5 r6 r7 r8 f0 f1 f2 f3 f4 f5 f6 f7 f8
        go_wp2
        refine ⟨⟨setD m k ((c + e) % 65536), (c + e) / 65536, k + 1, by go_num, by go_num, by omega, s3, by omega, P.out.trans X.out, hG.setCell (by simp) _, ?_, hR.far _ _ (by omega) _⟩, by simp [intOf]; omega⟩
        exact hN.setDigit k hk8 _ (S1.out.trans (by omega)) S2.out
      · obtain ⟨c0, c1, c2, c3, c4, c5, c6, c7, c8⟩ := hN.cells
        have f9 := hN.f 8 (by omega)
        have E : Hid (m = (n + v * 65536 ^ at') % 340282366920938463463374607431768211456 ∧ true = (o || decide (340282366920938463463374607431768211456 ≤ n + v * 65536 ^ at'))) := by
          obtain ⟨p1, p2⟩ := pow_past k (by omega) c m hm (by omega)
          have := X.out
          rw [← this]
          exact ⟨p1.symm, by rw [decide_eq_true p2]; simp⟩
        clear X hN hR
        go_wp2
        refine bodyPost_ret (v := Nm m true) (by simp [results, Tryz.results121, go_sem, r0, r1, r2, r3, r4, r5, r6, r7, r8]) rfl ⟨by rw [← E.out.1, ← E.out.2], ?_⟩
        exact (hG.setCell (by simp) _).store9 (by omega) _ _ _ _ _ _ _ _ _

end Go.Proofs.YtdmdjmliggjbjaaGreat

/- Heaps as plain arrays: the worst stands in front. -/
namespace Go.Proofs.YtdmdjmliggjbjaaGreat.Tk
open Go.RowKit Go.Sort

/-- No hit is behind the one above it. -/
def MaxH (d : Array Ht) : Prop := ∀ i, 0 < i → i < d.size → hlt d[(i - 1) / 2]! d[i]! = false
/-- .. but perhaps at j, towards the front. -/
def UpInv (d : Array Ht) (j : Nat) : Prop :=
  (∀ i, 0 < i → i < d.size → i ≠ j → hlt d[(i - 1) / 2]! d[i]! = false) ∧ ∀ c, 0 < c → c < d.size → (c - 1) / 2 = j → 0 < j → hlt d[(j - 1) / 2]! d[c]! = false
/-- .. but perhaps at i, towards the end. -/
def DownInv (d : Array Ht) (i : Nat) : Prop :=
  (∀ c, 0 < c → c < d.size → (c - 1) / 2 ≠ i → hlt d[(c - 1) / 2]! d[c]! = false) ∧ ∀ c, 0 < c → c < d.size → (c - 1) / 2 = i → 0 < i → hlt d[(i - 1) / 2]! d[c]! = false

theorem swp_perm (d : Array Ht) (i j : Nat) (hi : i < d.size) (hj : j < d.size) : (swp d i j).toList.Perm d.toList := by
  have h := (swp_permIn d 0 d.size i j (Nat.zero_le _) hi (Nat.zero_le _) hj (Nat.le_refl _)).2.2
  rw [show (swp d i j).extract 0 d.size = swp d i j by rw [← size_swp d i j, Array.extract_size], Array.extract_size] at h
  exact h

theorem maxh_root {d : Array Ht} (h : MaxH d) : ∀ i, i < d.size → hlt d[0]! d[i]! = false := by
  intro i
  induction i using Nat.strongRecOn with
  | _ i ih =>
    intro hi
    by_cases h0 : i = 0
    · subst h0; exact hlt_irrefl _
    · exact hlt_ntrans (ih ((i - 1) / 2) (by omega) (by omega)) (h i (by omega) hi)

theorem up_zero {d : Array Ht} (h : UpInv d 0) : MaxH d := fun i h0 h1 => h.1 i h0 h1 (by omega)
theorem up_stop {d : Array Ht} {j : Nat} (h : UpInv d j) (hn : 0 < j → hlt d[(j - 1) / 2]! d[j]! = false) : MaxH d := by
  intro i h0 h1
  by_cases e : i = j
  · subst e; exact hn h0
  · exact h.1 i h0 h1 e
theorem up_step {d : Array Ht} {j : Nat} (h : UpInv d j) (h0 : 0 < j) (hj : j < d.size) (hl : hlt d[(j - 1) / 2]! d[j]! = true) : UpInv (swp d ((j - 1) / 2) j) ((j - 1) / 2) := by
  have hi : (j - 1) / 2 < d.size := by omega
  have g := swp_get d hi hj
  constructor
  · intro c c0 c1 c2
    rw [size_swp] at c1
    rw [g, g]
    by_cases e1 : c = j
    · subst e1
      rw [if_neg (by omega), if_pos rfl, if_pos rfl]
      exact hlt_asymm hl
    · rw [if_neg e1, if_neg c2]
      by_cases e2 : (c - 1) / 2 = j
      · rw [if_pos e2]
        exact h.2 c c0 c1 e2 h0
      · rw [if_neg e2]
        by_cases e3 : (c - 1) / 2 = (j - 1) / 2
        · rw [if_pos e3]
          have := h.1 c c0 c1 e1
          rw [e3] at this
          exact hlt_ntrans (hlt_asymm hl) this
        · rw [if_neg e3]
          exact h.1 c c0 c1 e1
  · intro c c0 c1 c2 c3
    rw [size_swp] at c1
    rw [g, g, if_neg (by omega), if_neg (by omega)]
    by_cases e1 : c = j
    · subst e1
      rw [if_pos rfl]
      exact h.1 _ c3 hi (by omega)
    · rw [if_neg e1, if_neg (by omega)]
      have a := h.1 c c0 c1 e1
      rw [c2] at a
      exact hlt_ntrans (h.1 _ c3 hi (by omega)) a
theorem up_push {d : Array Ht} (h : MaxH d) (x : Ht) : UpInv (d.push x) d.size := by
  constructor
  · intro i h0 h1 h2
    rw [Array.size_push] at h1
    have := h i h0 (by omega)
    rw [getElem!_pos d _ (show (i - 1) / 2 < d.size by omega), getElem!_pos d _ (show i < d.size by omega)] at this
    rw [getElem!_pos (d.push x) _ (show (i - 1) / 2 < (d.push x).size by rw [Array.size_push]; omega), getElem!_pos (d.push x) _ (show i < (d.push x).size by rw [Array.size_push]; omega), Array.getElem_push_lt (by omega), Array.getElem_push_lt (by omega)]
    exact this
  · intro c h0 h1 h2 _
    rw [Array.size_push] at h1; omega

theorem down_stop0 {d : Array Ht} {i : Nat} (h : DownInv d i) (hn : d.size ≤ 2 * i + 1) : MaxH d := fun c c0 c1 => h.1 c c0 c1 (by omega)
/-- j is a child of i that no other child of i is ahead of. -/
def Child (d : Array Ht) (i j : Nat) : Prop := 0 < j ∧ j < d.size ∧ (j - 1) / 2 = i ∧ ∀ c, 0 < c → c < d.size → (c - 1) / 2 = i → hlt d[j]! d[c]! = false
theorem down_stop1 {d : Array Ht} {i j : Nat} (h : DownInv d i) (hc : Child d i j) (hn : hlt d[i]! d[j]! = false) : MaxH d := by
  intro c c0 c1
  by_cases e : (c - 1) / 2 = i
  · rw [e]; exact hlt_ntrans hn (hc.2.2.2 c c0 c1 e)
  · exact h.1 c c0 c1 e
theorem down_step {d : Array Ht} {i j : Nat} (h : DownInv d i) (hc : Child d i j) (hl : hlt d[i]! d[j]! = true) : DownInv (swp d i j) j := by
  obtain ⟨j0, j1, j2, j3⟩ := hc
  have hi : i < d.size := by omega
  have g := swp_get d hi j1
  constructor
  · intro c c0 c1 c2
    rw [size_swp] at c1
    rw [g, g, if_neg c2]
    by_cases e1 : (c - 1) / 2 = i
    · rw [if_pos e1]
      by_cases e2 : c = j
      · rw [if_pos e2]; exact hlt_asymm hl
      · rw [if_neg e2, if_neg (by omega)]
        exact j3 c c0 c1 e1
    · rw [if_neg e1]
      by_cases e2 : c = j
      · subst e2; omega
      · rw [if_neg e2]
        by_cases e3 : c = i
        · subst e3
          rw [if_pos rfl]
          exact h.2 j j0 j1 j2 c0
        · rw [if_neg e3]; exact h.1 c c0 c1 e1
  · intro c c0 c1 c2 _
    rw [size_swp] at c1
    rw [g, g, if_neg (by omega), if_pos j2, if_neg (by omega), if_neg (by omega)]
    have := h.1 c c0 c1 (by omega)
    rw [c2] at this
    exact this
theorem child_one {d : Array Ht} {i : Nat} (h1 : 2 * i + 1 < d.size) (h2 : d.size ≤ 2 * i + 2) : Child d i (2 * i + 1) :=
  ⟨by omega, h1, by omega, fun c _ c1 c2 => by obtain rfl : c = 2 * i + 1 := by omega
                                               exact hlt_irrefl _⟩
theorem child_l {d : Array Ht} {i : Nat} (h2 : 2 * i + 2 < d.size) (hl : hlt d[2 * i + 1]! d[2 * i + 2]! = false) : Child d i (2 * i + 1) :=
  ⟨by omega, by omega, by omega, fun c _ c1 c2 => by
    have : c = 2 * i + 1 ∨ c = 2 * i + 2 := by omega
    rcases this with rfl | rfl
    · exact hlt_irrefl _
    · exact hl⟩
theorem child_r {d : Array Ht} {i : Nat} (h2 : 2 * i + 2 < d.size) (hl : hlt d[2 * i + 1]! d[2 * i + 2]! = true) : Child d i (2 * i + 2) :=
  ⟨by omega, by omega, by omega, fun c _ c1 c2 => by
    have : c = 2 * i + 1 ∨ c = 2 * i + 2 := by omega
    rcases this with rfl | rfl
    · exact hlt_asymm hl
    · exact hlt_irrefl _⟩
theorem down_set {d : Array Ht} (h : MaxH d) (x : Ht) : DownInv (d.setIfInBounds 0 x) 0 := by
  constructor
  · intro c c0 c1 c2
    rw [Array.size_setIfInBounds] at c1
    rw [getElem!_set_other d 0 _ x c2, getElem!_set_other d 0 _ x (by omega)]
    exact h c c0 c1
  · intro c _ _ _ h0; exact absurd h0 (Nat.lt_irrefl _)
end Go.Proofs.YtdmdjmliggjbjaaGreat.Tk
