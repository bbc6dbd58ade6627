/- From the rows' condition to the table's cells. -/
import Derived.Test.YtjediopfnjkihaaDoorLift
import Derived.Test.YtjediopfnjkihaaDoorLevel
namespace Go.Proofs.YtjediopfnjkihaaDoor
open Go.ChangeShapes Go.WideShapes Go.ChangeAt Go.RowKit Go.Joins

theorem Tryd.gTab : Tryd.prog.globalNamed "math/bits.deBruijn64tab" = some 0 := by kernel_rfl
theorem laid1_eq : laid1 = [("math/bits.deBruijn64tab", Lib.tabData .u8 (Lib.deBruijn64tab.map (fun (k : Nat) => (k : Int))))] := by kernel_rfl
theorem tab_len : (Lib.deBruijn64tab.map (fun (k : Nat) => (k : Int))).length = 64 := by kernel_rfl
theorem tab_of_laid {W : World} (h : laidMetH Tryd.prog laid1 W) : Tab W ∧ 0 < W.heap.size := by
  rw [MakeChecks.laidMetH_plain _ _ _ (by kernel_rfl), laid1_eq] at h
  have hI := Lib.tabIs_of_head Tryd.gTab (t := 58) (by kernel_rfl) Tryd.underlying58 Tryd.underlying5 (by kernel_rfl) (by kernel_rfl) h
  have hc : ∀ j, j < 64 → W.cell? ⟨0, j, none⟩ = some (.int .u8 ((Lib.deBruijn64tab.getD j 0 : Nat) : Int)) := fun j hj => by
    have := hI.cell Tryd.gTab j (by rw [tab_len]; exact hj)
    rw [this]
    congr 1
    have hl : j < Lib.deBruijn64tab.length := by have := tab_len; rw [List.length_map] at this; omega
    simp [List.getD, List.getElem?_map, List.getElem?_eq_getElem hl]
  refine ⟨fun j hj => hc j (by have := tab_len; rw [List.length_map] at this; omega), ?_⟩
  exact World.block_lt_of_cell? W ⟨0, 0, none⟩ (hc 0 (by decide))

end Go.Proofs.YtjediopfnjkihaaDoor
