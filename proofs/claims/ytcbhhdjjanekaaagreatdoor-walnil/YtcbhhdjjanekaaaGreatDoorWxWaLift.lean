/- What the rows list: the table of tens, strconv's two errors. -/
import Derived.Test.YtcbhhdjjanekaaaGreatDoorWx23
import Derived.Test.YtcbhhdjjanekaaaGreatDoorWxDkLf
import Derived.Test.YtcbhhdjjanekaaaGreatDoorTie
import Derived.Test.YtcbhhdjjanekaaaGreatDoorCards
import Derived.LaidMore
import Derived.OpenShut
import Derived.Stop.Joined
import Derived.Stop.LaidErr
import Derived.Lib.LaidTab
namespace Go.Proofs.YtcbhhdjjanekaaaGreatDoor
open Go.ChangeShapes Go.WideShapes Go.ChangeAt Go.RowKit Go.Joins

abbrev laid5 : List (String × DataW Unit) := [("math/bits.deBruijn32tab", Rows.laid_math_bits_deBruijn32tab), ("math/bits.deBruijn64tab", Rows.laid_math_bits_deBruijn64tab), ("internal/strconv.uint64pow10", Rows.laid_internal_strconv_uint64pow10), ("strconv.ErrRange", Rows.laid_strconv_ErrRange), ("strconv.ErrSyntax", Rows.laid_strconv_ErrSyntax)]
theorem door_met (os : Os) (args : Array Value) : laidMetH Tryz.prog laid5 ((World.doorLaid Tryz.prog 400 os).forCall (fun _ _ => 0) ⟨#[], args, []⟩).memory :=
  laidMetH_of_parts3 (fuel := 8) (laidMet_of_run' 8 (by kernel_rfl) (by kernel_rfl)) (by kernel_rfl) (by kernel_rfl)
theorem Tryz.gES : Tryz.prog.globalNamed "strconv.ErrSyntax" = some 0 := by kernel_rfl
theorem Tryz.gESType : (Tryz.prog.globals[0]?).map (·.type) = some 115 := by kernel_rfl
theorem Tryz.gER : Tryz.prog.globalNamed "strconv.ErrRange" = some 1 := by kernel_rfl
theorem Tryz.gERType : (Tryz.prog.globals[1]?).map (·.type) = some 115 := by kernel_rfl
theorem Tryz.gTens : Tryz.prog.globalNamed "internal/strconv.uint64pow10" = some 2 := by kernel_rfl
theorem Tryz.gTensType : (Tryz.prog.globals[2]?).map (·.type) = some 182 := by kernel_rfl
theorem Tryz.cellsU64 : Tryz.prog.cellsOf 147 = 1 := by kernel_rfl
theorem Tryz.cellsTens : Tryz.prog.cellsOf 182 = 20 := by kernel_rfl
theorem Tryz.cellsEs : Tryz.prog.cellsOf 191 = 1 := by kernel_rfl
theorem star : "*" ++ "errors.errorString" = "*errors.errorString" := by decide
theorem rowEs (u : TypeId) (h : Tryz.prog.typeName? 3 u = some "*errors.errorString") : u = 189 :=
  typeName_ptr_named (nm := "errors.errorString") (by rw [star]; kernel_rfl) (by kernel_rfl) (by decide) u (by rw [star]; exact h)
theorem tens_eq : (Rows.laid_internal_strconv_uint64pow10 : DataW Unit) = Lib.tabData .u64 Lib.pow10Tab := by rfl
theorem gl_of_laid {W : World} (h : laidMetH Tryz.prog laid5 W) : Gl W := by
  rw [MakeChecks.laidMetH_plain _ _ _ (by kernel_rfl)] at h
  obtain ⟨a0, s0, hv0, -, -, -⟩ := laid_sentinel h.tail.tail.tail Tryz.gER Tryz.gERType Tryz.underlying115 rowEs Tryz.underlying189 Tryz.underlying191 rfl rfl Tryz.underlying9 Tryz.cellsEs Tryz.cellsStr
  obtain ⟨a1, s1, hv1, -, -, -⟩ := laid_sentinel h.tail.tail.tail.tail Tryz.gES Tryz.gESType Tryz.underlying115 rowEs Tryz.underlying189 Tryz.underlying191 rfl rfl Tryz.underlying9 Tryz.cellsEs Tryz.cellsStr
  have h0 := World.var?_cell Tryz.gER hv0 0
  have h1 := World.var?_cell Tryz.gES hv1 0
  simp only [List.getElem?_toArray, List.getElem?_cons_zero] at h0 h1
  have ht := h.tail.tail
  rw [tens_eq] at ht
  exact ⟨Lib.tabIs_of_head Tryz.gTens Tryz.gTensType Tryz.underlying182 Tryz.underlying147 Tryz.cellsU64 Tryz.cellsTens ht, ⟨_, _, h1⟩, ⟨_, _, h0⟩⟩
end Go.Proofs.YtcbhhdjjanekaaaGreatDoor
