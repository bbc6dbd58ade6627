/- RouterBudgets' call. -/
import Derived.Test.YtgmjokmiifmckaaRoK
import Derived.Test.YtgmjokmiifmckaaBack
namespace Go.Proofs.Ytgmjokmiifmckaa
open Go.RowKit Go.Sort Go.Maps

theorem Lent.set {W : World} {B g k o : Nat} {u : Value} {l : List Int} (h : Lent W B g l) (hk : k ≠ g) : Lent (W.setCell ⟨k, o, none⟩ u) B g l :=
  ⟨h.1, by rw [World.setCell]; simp only [Array.getElem?_modify, if_neg hk]; exact h.2⟩
theorem cell_set_off {W : World} {k o o' : Nat} {u : Value} (h : o ≠ o') : (W.setCell ⟨k, o, none⟩ u).cell? ⟨k, o', none⟩ = W.cell? ⟨k, o', none⟩ := by
  simp only [World.setCell, World.cell?, Array.getElem?_modify, if_true]
  cases W.heap[k]? with
  | none => rfl
  | some x =>
    cases x <;> simp [h]
theorem frozen_block {w W : World} {k o : Nat} (e : W.heap[k]? = w.heap[k]?) : W.frozen? ⟨k, o, none⟩ = w.frozen? ⟨k, o, none⟩ := by simp only [World.frozen?]; rw [e]
theorem buN_le {k n p c rows K m b : Int} {l : List Int} (h : buE k n p c rows l K m b = 0) : buN k n p c rows l K m b ≤ rows := by
  unfold buN
  rw [if_pos h]
  split <;> omega
set_option maxHeartbeats 4000000 in
theorem budgets_law {w : World} {v : Value} {l : List Int} (h : RdI w v l) (k n p c rows K m b dim : Int) :
    Calls Try.prog 5 #[Sp k n p c, .int .i64 rows, Qv v K m b, .int .i64 dim] w fun e w' => e = .returned (.bool true) ∧ Gb w w' := by
  have h' := h
  obtain ⟨a, cap, rfl, _⟩ := h'
  by_cases hbig : l.length ≤ 65536
  · have cL := fun W (g : Gb w W) => lend_c (h.gb g) hbig
    have cB := fun W g (hg : Lent W w.heap.size g l) => budget_c hg.rd k n p c rows K m b
    have cC := fun W g (hg : Lent W w.heap.size g l) => qcheck_c hg.rd K m b dim
    have cK := fun W g (hg : Lent W w.heap.size g l) (gb : Gb w W) => back_c hg (h.gb gb) hbig
    have rB := fun W (g : Gb w W) => rbudget_c (h.gb g) k n p c rows K m b
    have rC := fun W (g : Gb w W) => rqcheck_c (h.gb g) K m b dim
    have LE : Hid (buE k n p c rows l K m b = 0 → buN k n p c rows l K m b ≤ rows) := buN_le
    have nb : ∀ W g, Lent W w.heap.size g l → w.heap.size ≤ g := fun W g hg => hg.1
    generalize buN k n p c rows l K m b = x at *
    generalize buE k n p c rows l K m b = y at *
    generalize qE l K m b dim = z at *
    clear h
    generalize l.length = nn at *
    have ga : ∀ {W : World} (_ : Gb w W) (o : Obj), Gb w (W.alloc o) := fun g o => gb_alloc g o
    go_enter Try.func5, Try.ntmps5
    go_wp2_with fail
    have G3 := ga (ga (ga (Below.refl w.heap.size w) (.cells #[.int .i64 k, .int .i64 n, .int .i64 p, .int .i64 c] 24)) (.cells #[.slice a nn cap, .int .i64 K, .int .i64 m, .int .i64 b] 36)) (.cells #[.slice a nn cap, .int .i64 K, .int .i64 m, .int .i64 b] 36)
    refine (cL _ G3).mono ?_
    rintro e w1 ⟨g, rfl, hL, g1⟩
    have s0 : w1.cell? ⟨w.heap.size, 0, none⟩ = some (.int .i64 k) := gb_keeps g1 (by simp [go_sem])
    have s1 : w1.cell? ⟨w.heap.size, 1, none⟩ = some (.int .i64 n) := gb_keeps g1 (by simp [go_sem])
    have s2 : w1.cell? ⟨w.heap.size, 2, none⟩ = some (.int .i64 p) := gb_keeps g1 (by simp [go_sem])
    have s3 : w1.cell? ⟨w.heap.size, 3, none⟩ = some (.int .i64 c) := gb_keeps g1 (by simp [go_sem])
    have q0 : w1.cell? ⟨w.heap.size + 1, 0, none⟩ = some (.slice a nn cap) := gb_keeps g1 (by simp [go_sem])
    have q1 : w1.cell? ⟨w.heap.size + 1, 1, none⟩ = some (.int .i64 K) := gb_keeps g1 (by simp [go_sem])
    have q2 : w1.cell? ⟨w.heap.size + 1, 2, none⟩ = some (.int .i64 m) := gb_keeps g1 (by simp [go_sem])
    have q3 : w1.cell? ⟨w.heap.size + 1, 3, none⟩ = some (.int .i64 b) := gb_keeps g1 (by simp [go_sem])
    have o0 : w1.cell? ⟨w.heap.size + 1 + 1, 0, none⟩ = some (.slice a nn cap) := gb_keeps g1 (by simp [go_sem])
    have o1 : w1.cell? ⟨w.heap.size + 1 + 1, 1, none⟩ = some (.int .i64 K) := gb_keeps g1 (by simp [go_sem])
    have o2 : w1.cell? ⟨w.heap.size + 1 + 1, 2, none⟩ = some (.int .i64 m) := gb_keeps g1 (by simp [go_sem])
    have o3 : w1.cell? ⟨w.heap.size + 1 + 1, 3, none⟩ = some (.int .i64 b) := gb_keeps g1 (by simp [go_sem])
    have of : w1.frozen? ⟨w.heap.size + 1 + 1, 0, none⟩ = false := by
      have e := g1.block (w.heap.size + 1 + 1) (by simp)
      exact (frozen_block e).trans (by simp [go_sem])
    have hg3 : w.heap.size + 1 + 1 + 1 ≤ g := by have := hL.1; simpa using this
    have L1 : Lent w1 w.heap.size g l := ⟨by omega, hL.2⟩
    have G1 : Gb w w1 := gb_trans G3 g1
    clear hL g1 G3
    obtain ⟨w2, hw2⟩ : ∃ w2, w2 = w1.setCell ⟨w.heap.size + 1 + 1, 0, none⟩ (.slice (some ⟨g, 0, none⟩) nn (nn + 1)) := ⟨_, rfl⟩
    have L2 : Lent w2 w.heap.size g l := by rw [hw2]; exact L1.set (by omega)
    have G2 : Gb w w2 := by rw [hw2]; exact gb_set G1 (by simp; omega) _
    have s0' : w2.cell? ⟨w.heap.size, 0, none⟩ = some (.int .i64 k) := by rw [hw2, World.cell?_setCell_far _ _ _ _ (by simp <;> omega)]; exact s0
    have s1' : w2.cell? ⟨w.heap.size, 1, none⟩ = some (.int .i64 n) := by rw [hw2, World.cell?_setCell_far _ _ _ _ (by simp <;> omega)]; exact s1
    have s2' : w2.cell? ⟨w.heap.size, 2, none⟩ = some (.int .i64 p) := by rw [hw2, World.cell?_setCell_far _ _ _ _ (by simp <;> omega)]; exact s2
    have s3' : w2.cell? ⟨w.heap.size, 3, none⟩ = some (.int .i64 c) := by rw [hw2, World.cell?_setCell_far _ _ _ _ (by simp <;> omega)]; exact s3
    have q0' : w2.cell? ⟨w.heap.size + 1, 0, none⟩ = some (.slice a nn cap) := by rw [hw2, World.cell?_setCell_far _ _ _ _ (by simp <;> omega)]; exact q0
    have q1' : w2.cell? ⟨w.heap.size + 1, 1, none⟩ = some (.int .i64 K) := by rw [hw2, World.cell?_setCell_far _ _ _ _ (by simp <;> omega)]; exact q1
    have q2' : w2.cell? ⟨w.heap.size + 1, 2, none⟩ = some (.int .i64 m) := by rw [hw2, World.cell?_setCell_far _ _ _ _ (by simp <;> omega)]; exact q2
    have q3' : w2.cell? ⟨w.heap.size + 1, 3, none⟩ = some (.int .i64 b) := by rw [hw2, World.cell?_setCell_far _ _ _ _ (by simp <;> omega)]; exact q3
    have o0' : w2.cell? ⟨w.heap.size + 1 + 1, 0, none⟩ = some (.slice (some ⟨g, 0, none⟩) nn (nn + 1)) := by rw [hw2]; exact World.cell?_setCell_same _ _ _ o0
    have o1' : w2.cell? ⟨w.heap.size + 1 + 1, 1, none⟩ = some (.int .i64 K) := by rw [hw2, cell_set_off (by simp)]; exact o1
    have o2' : w2.cell? ⟨w.heap.size + 1 + 1, 2, none⟩ = some (.int .i64 m) := by rw [hw2, cell_set_off (by simp)]; exact o2
    have o3' : w2.cell? ⟨w.heap.size + 1 + 1, 3, none⟩ = some (.int .i64 b) := by rw [hw2, cell_set_off (by simp)]; exact o3
    clear L1 s0 s1 s2 s3 q0 q1 q2 q3 o1 o2 o3
    have W2 := hw2.symm
    clear hw2
    go_wp2_with fail
    refine (cB _ _ L2).mono ?_
    rintro e w3 ⟨rfl, g3⟩
    have s03 : w3.cell? ⟨w.heap.size, 0, none⟩ = some (.int .i64 k) := gb_keeps g3 s0'
    have s13 : w3.cell? ⟨w.heap.size, 1, none⟩ = some (.int .i64 n) := gb_keeps g3 s1'
    have s23 : w3.cell? ⟨w.heap.size, 2, none⟩ = some (.int .i64 p) := gb_keeps g3 s2'
    have s33 : w3.cell? ⟨w.heap.size, 3, none⟩ = some (.int .i64 c) := gb_keeps g3 s3'
    have q03 : w3.cell? ⟨w.heap.size + 1, 0, none⟩ = some (.slice a nn cap) := gb_keeps g3 q0'
    have q13 : w3.cell? ⟨w.heap.size + 1, 1, none⟩ = some (.int .i64 K) := gb_keeps g3 q1'
    have q23 : w3.cell? ⟨w.heap.size + 1, 2, none⟩ = some (.int .i64 m) := gb_keeps g3 q2'
    have q33 : w3.cell? ⟨w.heap.size + 1, 3, none⟩ = some (.int .i64 b) := gb_keeps g3 q3'
    have o03 : w3.cell? ⟨w.heap.size + 1 + 1, 0, none⟩ = some (.slice (some ⟨g, 0, none⟩) nn (nn + 1)) := gb_keeps g3 o0'
    have o13 : w3.cell? ⟨w.heap.size + 1 + 1, 1, none⟩ = some (.int .i64 K) := gb_keeps g3 o1'
    have o23 : w3.cell? ⟨w.heap.size + 1 + 1, 2, none⟩ = some (.int .i64 m) := gb_keeps g3 o2'
    have o33 : w3.cell? ⟨w.heap.size + 1 + 1, 3, none⟩ = some (.int .i64 b) := gb_keeps g3 o3'
    clear s0' s1' s2' s3' q0' q1' q2' q3' o0' o1' o2' o3'
    clear W2 of o0
    go_wp2_with fail
    refine (cC _ _ (L2.gb g3)).mono ?_
    rintro e w4 ⟨rfl, g4⟩
    have s04 : w4.cell? ⟨w.heap.size, 0, none⟩ = some (.int .i64 k) := gb_keeps g4 s03
    have s14 : w4.cell? ⟨w.heap.size, 1, none⟩ = some (.int .i64 n) := gb_keeps g4 s13
    have s24 : w4.cell? ⟨w.heap.size, 2, none⟩ = some (.int .i64 p) := gb_keeps g4 s23
    have s34 : w4.cell? ⟨w.heap.size, 3, none⟩ = some (.int .i64 c) := gb_keeps g4 s33
    have q04 : w4.cell? ⟨w.heap.size + 1, 0, none⟩ = some (.slice a nn cap) := gb_keeps g4 q03
    have q14 : w4.cell? ⟨w.heap.size + 1, 1, none⟩ = some (.int .i64 K) := gb_keeps g4 q13
    have q24 : w4.cell? ⟨w.heap.size + 1, 2, none⟩ = some (.int .i64 m) := gb_keeps g4 q23
    have q34 : w4.cell? ⟨w.heap.size + 1, 3, none⟩ = some (.int .i64 b) := gb_keeps g4 q33
    have o04 : w4.cell? ⟨w.heap.size + 1 + 1, 0, none⟩ = some (.slice (some ⟨g, 0, none⟩) nn (nn + 1)) := gb_keeps g4 o03
    clear s03 s13 s23 s33 q03 q13 q23 q33 o03 o13 o23 o33
    go_wp2_with fail
    refine (cK _ _ ((L2.gb g3).gb g4) (gb_trans (gb_trans G2 g3) g4)).mono ?_
    rintro e w5 ⟨rfl, g5⟩
    have kp : ∀ {j o : Nat} {u : Value}, j ≠ g → w4.cell? ⟨j, o, none⟩ = some u → w5.cell? ⟨j, o, none⟩ = some u := fun hj hc => by
      rw [World.cell?_of_block (w := w4) (w' := w5)]
      · exact hc
      · exact g5.block _ (World.block_lt_of_cell? _ _ hc) (by simpa using hj)
    have G5 : Gb w w5 := Below.grown (gb_trans (gb_trans G2 g3) g4) g5 (gb_trans (gb_trans G2 g3) g4).size (fun k' hk' => by cases hk'; omega)
    have s05 : w5.cell? ⟨w.heap.size, 0, none⟩ = some (.int .i64 k) := kp (by omega) s04
    have s15 : w5.cell? ⟨w.heap.size, 1, none⟩ = some (.int .i64 n) := kp (by omega) s14
    have s25 : w5.cell? ⟨w.heap.size, 2, none⟩ = some (.int .i64 p) := kp (by omega) s24
    have s35 : w5.cell? ⟨w.heap.size, 3, none⟩ = some (.int .i64 c) := kp (by omega) s34
    have q05 : w5.cell? ⟨w.heap.size + 1, 0, none⟩ = some (.slice a nn cap) := kp (by omega) q04
    have q15 : w5.cell? ⟨w.heap.size + 1, 1, none⟩ = some (.int .i64 K) := kp (by omega) q14
    have q25 : w5.cell? ⟨w.heap.size + 1, 2, none⟩ = some (.int .i64 m) := kp (by omega) q24
    have q35 : w5.cell? ⟨w.heap.size + 1, 3, none⟩ = some (.int .i64 b) := kp (by omega) q34
    clear s04 s14 s24 s34 q04 q14 q24 q34 o04
    clear kp
    go_wp2_with fail
    refine (rB _ G5).mono ?_
    rintro e w6 ⟨rfl, g6⟩
    have s06 : w6.cell? ⟨w.heap.size, 0, none⟩ = some (.int .i64 k) := gb_keeps g6 s05
    have s16 : w6.cell? ⟨w.heap.size, 1, none⟩ = some (.int .i64 n) := gb_keeps g6 s15
    have s26 : w6.cell? ⟨w.heap.size, 2, none⟩ = some (.int .i64 p) := gb_keeps g6 s25
    have s36 : w6.cell? ⟨w.heap.size, 3, none⟩ = some (.int .i64 c) := gb_keeps g6 s35
    have q06 : w6.cell? ⟨w.heap.size + 1, 0, none⟩ = some (.slice a nn cap) := gb_keeps g6 q05
    have q16 : w6.cell? ⟨w.heap.size + 1, 1, none⟩ = some (.int .i64 K) := gb_keeps g6 q15
    have q26 : w6.cell? ⟨w.heap.size + 1, 2, none⟩ = some (.int .i64 m) := gb_keeps g6 q25
    have q36 : w6.cell? ⟨w.heap.size + 1, 3, none⟩ = some (.int .i64 b) := gb_keeps g6 q35
    clear s05 s15 s25 s35 q05 q15 q25 q35
    go_wp2_with fail
    refine (awake_c _).mono ?_
    rintro e w7 ⟨rfl, g7⟩
    have q07 : w7.cell? ⟨w.heap.size + 1, 0, none⟩ = some (.slice a nn cap) := gb_keeps g7 q06
    have q17 : w7.cell? ⟨w.heap.size + 1, 1, none⟩ = some (.int .i64 K) := gb_keeps g7 q16
    have q27 : w7.cell? ⟨w.heap.size + 1, 2, none⟩ = some (.int .i64 m) := gb_keeps g7 q26
    have q37 : w7.cell? ⟨w.heap.size + 1, 3, none⟩ = some (.int .i64 b) := gb_keeps g7 q36
    clear s06 s16 s26 s36 q06 q16 q26 q36
    go_wp2_with fail
    refine (rC _ (gb_trans (gb_trans G5 g6) g7)).mono ?_
    rintro e w8 ⟨rfl, g8⟩
    have G8 : Hid (Gb w w8) := gb_trans (gb_trans (gb_trans G5 g6) g7) g8
    by_cases hy : y = 0
    · have hx := LE.out hy
      have hy' : (y != 0) = false := by simpa using hy
      go_wp2
      go_ret
      exact ⟨rfl, G8.out⟩
    · have hy' : (y != 0) = true := by simpa using hy
      go_wp2
      go_ret
      exact ⟨rfl, G8.out⟩
  · have hb : 65536 < (l.length : Int) := by omega
    clear h hbig
    generalize l.length = nn at *
    go_enter Try.func5, Try.ntmps5
    go_wp2
    go_ret
    exact ⟨rfl, gb_alloc (gb_alloc (Below.refl _ _) _) _⟩
end Go.Proofs.Ytgmjokmiifmckaa
