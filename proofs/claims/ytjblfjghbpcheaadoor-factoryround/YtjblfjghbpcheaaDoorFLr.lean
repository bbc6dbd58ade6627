/- FactoryRound. -/
import Derived.Test.YtjblfjghbpcheaaDoorFL
namespace Go.Proofs.YtjblfjghbpcheaaDoor
open Go.Shelf Go.RowKit

/-- The part of the law behind what is printed: any world in which the spec's box lies. -/
structure RnI (w0 : World) (k n p c : Int) (W : World) : Prop where
  box : W.heap[w0.heap.size]? = some (SpC k n p c)
  bl : Below w0.heap.size w0 W

set_option maxHeartbeats 4000000 in
theorem round_c (k n p c : Int) (s : ByteArray) (hs : s.size ≤ maxLen) (w : World) (hE : ErrV w) : Calls Tryd.prog 5 #[Sp k n p c, .string s] w fun e w' => e = .returned (.bool true) ∧ Below w.heap.size w w' := by
  unfold maxLen at hs
  have g0 : Below w.heap.size w (spW k n p c w) := (Below.refl _ w).alloc (Nat.le_refl _) _
  have A0 : (spW k n p c w).heap[w.heap.size]? = some (SpC k n p c) := al_new _ _
  by_cases h : 65536 < s.size
  · go_enter Tryd.func5, Tryd.ntmps5
    go_wp2
    go_ret
    exact ⟨rfl, g0⟩
  have hl : s.data.toList.length ≤ 65536 := by rw [len_list]; omega
  have Q := fun W (hEW : ErrV W) => parse_c s.data.toList W hEW hl
  rw [← mk_str s] at Q
  have P := print_c k n p c
  have hv1 : (parV s.data.toList).2 ≠ 0 → (parV s.data.toList).1 = (0, 0, 0, 0) := par_zero 6 1
  have hv2 : ∀ x : N4, parV s.data.toList = (x, 0) → chkV x.1 x.2.1 x.2.2.1 x.2.2.2 = 0 ∧ prK x.1 x.2.1 x.2.2.1 x.2.2.2 = s.data.toList := fun x hx => par_back 6 1 hx
  generalize hV : parV s.data.toList = v at *
  obtain ⟨⟨k2, n2, p2, c2⟩, z2⟩ := v
  simp only at Q hv1
  -- what stands behind: two ways
  have tailA : Hid (z2 ≠ 0 → (k2, n2, p2, c2) = ((0, 0, 0, 0) : N4)) := hv1
  have tailB : Hid (z2 = 0 → chkV k2 n2 p2 c2 = 0 ∧ prV k2 n2 p2 c2 = (s.data.toList, 0)) := fun hz => by
    obtain ⟨a, b⟩ := hv2 (k2, n2, p2, c2) (by rw [hz])
    simp only at a b
    exact ⟨a, by unfold prV; rw [if_pos a, b]⟩
  clear hv1 hv2 hV
  by_cases hc : chkV k n p c = 0
  · have PV : prV k n p c = (prK k n p c, 0) := by unfold prV; rw [if_pos hc]
    have PL := pr_len hc
    have Q2 := fun W (hEW : ErrV W) => parse_c (prK k n p c) W hEW (by omega)
    rw [par_pr k n p c hc] at Q2
    rw [PV] at P
    simp only at P Q2
    generalize prK k n p c = l at *
    clear PV hc PL
    by_cases hz : z2 = 0
    · subst hz
      obtain ⟨hc2, hp2⟩ := tailB.out rfl
      have P2 := print_c k2 n2 p2 c2
      have K2 := check_c k2 n2 p2 c2
      rw [hp2] at P2
      rw [hc2] at K2
      simp only at P2
      rw [← mk_str s] at P2
      clear tailA tailB hc2 hp2
      go_enter Tryd.func5, Tryd.ntmps5
      go_wp2_with fail
      refine (P _).mono ?_
      rintro e w1 ⟨rfl, b1⟩
      have A1 : w1.heap[w.heap.size]? = some (SpC k n p c) := (b1.block _ (Array.getElem?_eq_some_iff.1 A0).1).trans A0
      have g1 : Below w.heap.size w w1 := g0.trans (b1.mono g0.size)
      clear b1
      go_wp2_with fail
      refine (Q2 _ (hE.below (Nat.le_refl _) g1)).mono ?_
      rintro e w2 ⟨rfl, b2⟩
      have A2 : (spW k n p c w2).heap[w.heap.size]? = some (SpC k n p c) := al_old ((b2.block _ (Array.getElem?_eq_some_iff.1 A1).1).trans A1) _
      have g2 : Below w.heap.size w (spW k n p c w2) := below_al (g1.trans (b2.mono g1.size)) _
      obtain ⟨⟨x0, x1, x2, x3⟩, _⟩ := box_cells A2
      clear b2 A1 g1
      go_wp2_with fail
      refine (Q _ (hE.below (Nat.le_refl _) g2)).mono ?_
      rintro e w3 ⟨rfl, b3⟩
      have B3 : (spW k2 n2 p2 c2 w3).heap[w3.heap.size]? = some (SpC k2 n2 p2 c2) := al_new _ _
      have g3 : Below w.heap.size w (spW k2 n2 p2 c2 w3) := below_al (g2.trans (b3.mono g2.size)) _
      clear b3 A2 g2 x0 x1 x2 x3
      go_wp2_with fail
      refine (P2 _).mono ?_
      rintro e w4 ⟨rfl, b4⟩
      have B4 : w4.heap[w3.heap.size]? = some (SpC k2 n2 p2 c2) := (b4.block _ (Array.getElem?_eq_some_iff.1 B3).1).trans B3
      have g4 : Below w.heap.size w w4 := g3.trans (b4.mono g3.size)
      clear b4 B3 g3
      go_wp2_with fail
      refine (awake_c _ (hE.below (Nat.le_refl _) g4)).mono ?_
      rintro e w5 ⟨rfl, b5⟩
      obtain ⟨x0, x1, x2, x3⟩ := keep4 b5 B4
      have g5 : Below w.heap.size w w5 := g4.trans (b5.mono g4.size)
      clear b5 B4 g4
      go_wp2_with fail
      refine (K2 _).mono ?_
      rintro e w6 ⟨rfl, rfl⟩
      go_wp2
      go_ret
      exact ⟨by simp [go_sem], g5.alloc g5.size _⟩
    · have hz' := tailA.out hz
      simp only [Prod.mk.injEq] at hz'
      obtain ⟨rfl, rfl, rfl, rfl⟩ := hz'
      have hb : (z2 == 0) = false := by simpa using hz
      clear tailA tailB hz
      go_enter Tryd.func5, Tryd.ntmps5
      go_wp2_with fail
      refine (P _).mono ?_
      rintro e w1 ⟨rfl, b1⟩
      have A1 : w1.heap[w.heap.size]? = some (SpC k n p c) := (b1.block _ (Array.getElem?_eq_some_iff.1 A0).1).trans A0
      have g1 : Below w.heap.size w w1 := g0.trans (b1.mono g0.size)
      clear b1
      go_wp2_with fail
      refine (Q2 _ (hE.below (Nat.le_refl _) g1)).mono ?_
      rintro e w2 ⟨rfl, b2⟩
      have A2 : (spW k n p c w2).heap[w.heap.size]? = some (SpC k n p c) := al_old ((b2.block _ (Array.getElem?_eq_some_iff.1 A1).1).trans A1) _
      have g2 : Below w.heap.size w (spW k n p c w2) := below_al (g1.trans (b2.mono g1.size)) _
      obtain ⟨⟨x0, x1, x2, x3⟩, _⟩ := box_cells A2
      clear b2 A1 g1
      go_wp2_with fail
      refine (Q _ (hE.below (Nat.le_refl _) g2)).mono ?_
      rintro e w3 ⟨rfl, b3⟩
      have B3 : (spW 0 0 0 0 w3).heap[w3.heap.size]? = some (SpC 0 0 0 0) := al_new _ _
      have g3 : Below w.heap.size w (spW 0 0 0 0 w3) := below_al (g2.trans (b3.mono g2.size)) _
      clear b3 A2 g2 x0 x1 x2 x3
      go_wp2_with fail
      refine (awake_c _ (hE.below (Nat.le_refl _) g3)).mono ?_
      rintro e w5 ⟨rfl, b5⟩
      obtain ⟨x0, x1, x2, x3⟩ := keep4 b5 B3
      have g5 : Below w.heap.size w w5 := g3.trans (b5.mono g3.size)
      clear b5 B3 g3
      go_wp2
      go_ret
      exact ⟨by simp [go_sem], g5⟩
  · have PV : prV k n p c = ([], chkV k n p c) := by unfold prV; rw [if_neg hc]
    rw [PV] at P
    simp only at P
    have hbc : (chkV k n p c == 0) = false := by simpa using hc
    generalize chkV k n p c = z at *
    clear PV hc
    by_cases hz : z2 = 0
    · subst hz
      obtain ⟨hc2, hp2⟩ := tailB.out rfl
      have P2 := print_c k2 n2 p2 c2
      have K2 := check_c k2 n2 p2 c2
      rw [hp2] at P2
      rw [hc2] at K2
      simp only at P2
      rw [← mk_str s] at P2
      clear tailA tailB hc2 hp2
      go_enter Tryd.func5, Tryd.ntmps5
      go_wp2_with fail
      refine (P _).mono ?_
      rintro e w1 ⟨rfl, b1⟩
      have g2 : Below w.heap.size w w1 := g0.trans (b1.mono g0.size)
      clear b1
      go_wp2_with fail
      refine (Q _ (hE.below (Nat.le_refl _) g2)).mono ?_
      rintro e w3 ⟨rfl, b3⟩
      have B3 : (spW k2 n2 p2 c2 w3).heap[w3.heap.size]? = some (SpC k2 n2 p2 c2) := al_new _ _
      have g3 : Below w.heap.size w (spW k2 n2 p2 c2 w3) := below_al (g2.trans (b3.mono g2.size)) _
      clear b3 g2
      go_wp2_with fail
      refine (P2 _).mono ?_
      rintro e w4 ⟨rfl, b4⟩
      have B4 : w4.heap[w3.heap.size]? = some (SpC k2 n2 p2 c2) := (b4.block _ (Array.getElem?_eq_some_iff.1 B3).1).trans B3
      have g4 : Below w.heap.size w w4 := g3.trans (b4.mono g3.size)
      clear b4 B3 g3
      go_wp2_with fail
      refine (awake_c _ (hE.below (Nat.le_refl _) g4)).mono ?_
      rintro e w5 ⟨rfl, b5⟩
      obtain ⟨x0, x1, x2, x3⟩ := keep4 b5 B4
      have g5 : Below w.heap.size w w5 := g4.trans (b5.mono g4.size)
      clear b5 B4 g4
      go_wp2_with fail
      refine (K2 _).mono ?_
      rintro e w6 ⟨rfl, rfl⟩
      go_wp2
      go_ret
      exact ⟨by simp [go_sem], g5.alloc g5.size _⟩
    · have hz' := tailA.out hz
      simp only [Prod.mk.injEq] at hz'
      obtain ⟨rfl, rfl, rfl, rfl⟩ := hz'
      have hb : (z2 == 0) = false := by simpa using hz
      clear tailA tailB hz
      go_enter Tryd.func5, Tryd.ntmps5
      go_wp2_with fail
      refine (P _).mono ?_
      rintro e w1 ⟨rfl, b1⟩
      have g2 : Below w.heap.size w w1 := g0.trans (b1.mono g0.size)
      clear b1
      go_wp2_with fail
      refine (Q _ (hE.below (Nat.le_refl _) g2)).mono ?_
      rintro e w3 ⟨rfl, b3⟩
      have B3 : (spW 0 0 0 0 w3).heap[w3.heap.size]? = some (SpC 0 0 0 0) := al_new _ _
      have g3 : Below w.heap.size w (spW 0 0 0 0 w3) := below_al (g2.trans (b3.mono g2.size)) _
      clear b3 g2
      go_wp2_with fail
      refine (awake_c _ (hE.below (Nat.le_refl _) g3)).mono ?_
      rintro e w5 ⟨rfl, b5⟩
      obtain ⟨x0, x1, x2, x3⟩ := keep4 b5 B3
      have g5 : Below w.heap.size w w5 := g3.trans (b5.mono g3.size)
      clear b5 B3 g3
      go_wp2
      go_ret
      exact ⟨by simp [go_sem], g5⟩

end Go.Proofs.YtjblfjghbpcheaaDoor
