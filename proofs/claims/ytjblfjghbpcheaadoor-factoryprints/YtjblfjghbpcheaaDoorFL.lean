/- factory's laws. -/
import Derived.Test.YtjblfjghbpcheaaDoorFA
import Derived.Test.YtjblfjghbpcheaaDoorFRp
import Derived.Test.YtjblfjghbpcheaaDoorFRr
namespace Go.Proofs.YtjblfjghbpcheaaDoor
open Go.Shelf Go.RowKit

theorem keep4 {w W : World} {b : Nat} {k n p c : Int} (h : Below w.heap.size w W) (hb : w.heap[b]? = some (SpC k n p c)) : W.cell? ⟨b, 0, none⟩ = some (.int .i64 k) ∧ W.cell? ⟨b, 1, none⟩ = some (.int .i64 n) ∧ W.cell? ⟨b, 2, none⟩ = some (.int .i64 p) ∧ W.cell? ⟨b, 3, none⟩ = some (.int .i64 c) :=
  (box_cells ((h.block _ (Array.getElem?_eq_some_iff.1 hb).1).trans hb)).1

theorem below_al {a b : World} (h : Below a.heap.size a b) (o : Obj) : Below a.heap.size a (b.alloc o) := h.alloc h.size _
set_option maxHeartbeats 1000000 in
theorem parses_c (s : ByteArray) (hs : s.size ≤ maxLen) (w : World) (hE : ErrV w) : Calls Tryd.prog 3 #[.string s] w fun e w' => e = .returned (.bool true) ∧ Below w.heap.size w w' := by
  unfold maxLen at hs
  by_cases h : 65536 < s.size
  · go_enter Tryd.func3, Tryd.ntmps3
    go_wp2
    go_ret
    exact ⟨rfl, Below.refl _ _⟩
  have hl : s.data.toList.length ≤ 65536 := by rw [len_list]; omega
  have P := fun W (hEW : ErrV W) => parse_c s.data.toList W hEW hl
  have R := fun W => rparse_c s.data.toList hl W
  rw [← mk_str s] at P R
  rw [par_same] at R
  generalize parV s.data.toList = v at *
  obtain ⟨⟨k, n, p, c⟩, z⟩ := v
  simp only at P R
  go_enter Tryd.func3, Tryd.ntmps3
  go_wp2_with fail
  refine (P w hE).mono ?_
  rintro e w1 ⟨rfl, b1⟩
  have A1 : (spW k n p c w1).heap[w1.heap.size]? = some (SpC k n p c) := al_new _ _
  have g1 : Below w.heap.size w (spW k n p c w1) := b1.alloc b1.size _
  go_wp2_with fail
  refine (R _).mono ?_
  rintro e w2 ⟨rfl, b2⟩
  have A2 : (spW k n p c w2).heap[w1.heap.size]? = some (SpC k n p c) := al_old ((b2.block _ (Array.getElem?_eq_some_iff.1 A1).1).trans A1) _
  have B2 : (spW k n p c w2).heap[w2.heap.size]? = some (SpC k n p c) := al_new _ _
  have g2 : Below w.heap.size w (spW k n p c w2) := below_al (g1.trans (b2.mono g1.size)) _
  clear P R b1 A1 g1 b2
  go_wp2_with fail
  refine (awake_c _ (hE.below (Nat.le_refl _) g2)).mono ?_
  rintro e w3 ⟨rfl, b3⟩
  obtain ⟨x0, x1, x2, x3⟩ := keep4 b3 A2
  obtain ⟨y0, y1, y2, y3⟩ := keep4 b3 B2
  have g3 : Below w.heap.size w w3 := g2.trans (b3.mono g2.size)
  clear A2 B2 g2 b3
  go_wp2
  go_ret
  exact ⟨rfl, g3⟩

theorem pr_len {k n p c : Int} (h : chkV k n p c = 0) : (prK k n p c).length ≤ 100 := by
  obtain ⟨hk, hn, hp, hc⟩ := chk_bounds h
  have ln := dd_len hn.1 hn.2
  have lp := dd_len hp.1 hp.2
  have lc := dd_len hc.1 hc.2
  have hc' : k = 1 ∨ k = 2 ∨ k = 3 ∨ k = 4 ∨ k = 5 ∨ k = 6 := by omega
  rcases hc' with rfl | rfl | rfl | rfl | rfl | rfl <;> simp [prK, wFlat, wKD, wVP, wIVF, wCFlat, wPQ, wX, wHNSW] <;> omega

end Go.Proofs.YtjblfjghbpcheaaDoor
