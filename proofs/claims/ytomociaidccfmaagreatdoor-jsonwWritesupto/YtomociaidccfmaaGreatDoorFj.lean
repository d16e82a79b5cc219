/- The listed tables that the jsonw laws want. -/
import Derived.Test.YtomociaidccfmaaGreatDoorMq
import Derived.Test.YtomociaidccfmaaGreatDoorJ8
namespace Go.Proofs.YtomociaidccfmaaGreatDoor
open Go.ChangeShapes Go.WideShapes Go.ChangeAt Go.RowKit

theorem gPow : Tryz.prog.globalNamed "internal/strconv.uint64pow10" = some 3 := by kernel_rfl
theorem gPowT : (Tryz.prog.globals[3]?).map (·.type) = some 211 := by kernel_rfl
theorem cells20 : Tryz.prog.cellsOf 211 = 20 := by kernel_rfl
theorem cells64 : Tryz.prog.cellsOf 24 = 1 := by kernel_rfl
theorem tab_of {W : World} (h : laidMetH Tryz.prog tabs W) : Tab W :=
  Lib.tabIs_of_head (rest := [("strconv.ErrRange", Rows.laid_strconv_ErrRange), ("strconv.ErrSyntax", Rows.laid_strconv_ErrSyntax), ("targum/float.forms", Rows.laid_targum_float_forms), ("targum/tree.errForm", Rows.laid_targum_tree_errForm), ("targum/tree.errTree", Rows.laid_targum_tree_errTree)]) gPow gPowT Tryz.underlying211 Tryz.underlying24 cells64 cells20 (laidMet.tail (laidMet.tail (show laidMet Tryz.prog tabs W from h)))
theorem tj_of {W : World} (h : laidMetH Tryz.prog tabs W) : Tj W := ⟨tb_of h, tab_of h⟩
end Go.Proofs.YtomociaidccfmaaGreatDoor
