/- The document's examples. -/
import Derived.Test.YtjblfjghbpcheaaDoorFSpW
namespace Go.Proofs.YtjblfjghbpcheaaDoor
open Go.Shelf Go.RowKit

theorem ex1 : parV [73, 86, 70, 56, 44, 80, 81, 50, 120, 52] = ((5, 8, 2, 4), 0) := by decide +kernel
theorem ex2 : parV [75, 68, 48, 54, 53] = ((0, 0, 0, 0), 120) := by decide +kernel
theorem ex3 : parV [75, 68, 54, 53] = ((0, 0, 0, 0), 121) := by decide +kernel
theorem ex4 : prV 4 8 0 0 = ([73, 86, 70, 56, 44, 70, 108, 97, 116], 0) := by
  have e : dd 8 = [56] := by
    show Lib.decDigits 8 = _
    rw [Lib.decDigits_one (by decide)]; rfl
  have h : chkV 4 8 0 0 = 0 := by decide
  unfold prV
  rw [if_pos h]
  simp [prK, e, wIVF, wCFlat]
abbrev spW (k n p c : Int) (w : World) : World := w.alloc (.cells #[.int .i64 k, .int .i64 n, .int .i64 p, .int .i64 c] 24)

set_option maxHeartbeats 2000000 in
theorem awake_c (w : World) (hE : ErrV w) : Calls Tryd.prog 8 #[] w fun e w' => e = .returned (.bool true) ∧ Below w.heap.size w w' := by
  have P1 := parse_c [73, 86, 70, 56, 44, 80, 81, 50, 120, 52] w hE (by decide)
  rw [ex1] at P1
  go_enter Tryd.func8, Tryd.ntmps8
  go_wp2_with fail
  refine P1.mono ?_
  rintro e w1 ⟨rfl, b1⟩
  have A1 : (spW 5 8 2 4 w1).heap[w1.heap.size]? = some (SpC 5 8 2 4) := al_new _ _
  have g1 : Below w.heap.size w (spW 5 8 2 4 w1) := b1.alloc b1.size _
  have l1 : w1.heap.size < (spW 5 8 2 4 w1).heap.size := by simp
  have P2 := parse_c [75, 68, 48, 54, 53] (spW 5 8 2 4 w1) (hE.below (Nat.le_refl _) g1) (by decide)
  rw [ex2] at P2
  clear P1 b1
  go_wp2_with fail
  refine P2.mono ?_
  rintro e w2 ⟨rfl, b2⟩
  have A2 : (spW 0 0 0 0 w2).heap[w1.heap.size]? = some (SpC 5 8 2 4) := al_old ((b2.block _ l1).trans A1) _
  have g2 : Below w.heap.size w (spW 0 0 0 0 w2) := (g1.trans (b2.mono g1.size)).alloc (by have := g1.size; have := b2.size; omega) _
  have P3 := parse_c [75, 68, 54, 53] (spW 0 0 0 0 w2) (hE.below (Nat.le_refl _) g2) (by decide)
  rw [ex3] at P3
  clear P2 A1 g1 b2 l1
  go_wp2_with fail
  refine P3.mono ?_
  rintro e w3 ⟨rfl, b3⟩
  have A3 : (spW 0 0 0 0 w3).heap[w1.heap.size]? = some (SpC 5 8 2 4) := al_old ((b3.block _ (Array.getElem?_eq_some_iff.1 A2).1).trans A2) _
  have g3 : Below w.heap.size w (spW 0 0 0 0 w3) := (g2.trans (b3.mono g2.size)).alloc (by have := g2.size; have := b3.size; omega) _
  have P4 := print_c 4 8 0 0 (spW 0 0 0 0 w3)
  rw [ex4] at P4
  clear P3 A2 g2 b3
  go_wp2_with fail
  refine P4.mono ?_
  rintro e w4 ⟨rfl, b4⟩
  have A4 : w4.heap[w1.heap.size]? = some (SpC 5 8 2 4) := (b4.block _ (Array.getElem?_eq_some_iff.1 A3).1).trans A3
  have g4 : Below w.heap.size w w4 := g3.trans (b4.mono g3.size)
  obtain ⟨⟨x0, x1, x2, x3⟩, _⟩ := box_cells A4
  clear P4 A3 g3 b4
  go_wp2
  go_ret
  exact ⟨rfl, g4⟩

end Go.Proofs.YtjblfjghbpcheaaDoor
