/- What the cards' frames share: the listed tables, a world that holds them. -/
import Derived.Test.YtifccjchpciicaaDoorFd
import Derived.Test.YtifccjchpciicaaDoorCards
import Derived.Test.YtifccjchpciicaaDoorTie
import Derived.Test.YtifccjchpciicaaDoorCt
import Derived.Deep.DeepHandedRow
import Derived.Lib.LaidTab
import Derived.Stop.LaidErr
namespace Go.Proofs.YtifccjchpciicaaDoor
open Go.ChangeShapes Go.WideShapes Go.ChangeAt Go.RowKit

theorem gPow : Tryd.prog.globalNamed "internal/strconv.uint64pow10" = some 2 := by kernel_rfl
theorem gPowT : (Tryd.prog.globals[2]?).map (·.type) = some 123 := by kernel_rfl
theorem cells20 : Tryd.prog.cellsOf 123 = 20 := by kernel_rfl
theorem cells64 : Tryd.prog.cellsOf 53 = 1 := by kernel_rfl

def tabs : List (String × DataW Unit) := [("math/bits.deBruijn32tab", Rows.laid_math_bits_deBruijn32tab), ("math/bits.deBruijn64tab", Rows.laid_math_bits_deBruijn64tab), ("internal/strconv.uint64pow10", Rows.laid_internal_strconv_uint64pow10), ("unicode/utf8.acceptRanges", Rows.laid_unicode_utf8_acceptRanges), ("unicode/utf8.first", Rows.laid_unicode_utf8_first)]
theorem tab_of {W : World} (h : laidMetH Tryd.prog tabs W) : Tab W :=
  Lib.tabIs_of_head (rest := [("unicode/utf8.acceptRanges", Rows.laid_unicode_utf8_acceptRanges), ("unicode/utf8.first", Rows.laid_unicode_utf8_first)]) gPow gPowT Tryd.underlying123 Tryd.underlying53 cells64 cells20 (laidMet.tail (laidMet.tail (show laidMet Tryd.prog tabs W from h)))
theorem tb_of {W : World} (h : laidMetH Tryd.prog tabs W) : Tb W := ⟨tab_of h, trivial⟩

def put (k : IntKind) (zs : List Int) : Obj → Obj
  | .cells _ t frozen => .cells (zs.map (Value.int k)).toArray t frozen
  | o => o
def ofLit : DataW Unit → Int
  | .lit (.int _ n) => n
  | _ => 0
def ofTab (d : DataW Unit) : List Int := match d with
  | .agg l => l.map ofLit
  | _ => []
def ofTab2 (d : DataW Unit) : List Int := match d with
  | .agg l => (l.map ofTab).flatten
  | _ => []
/-- A world for a witness: the settled one, the tables as their initialisers lay them. -/
noncomputable def laidWorld (os : Os) : World :=
  { World.holding Tryd.prog os ⟨#[], #[], []⟩ with heap := (((((World.holding Tryd.prog os ⟨#[], #[], []⟩).heap.modify 4 (put .u8 (ofTab Rows.laid_math_bits_deBruijn32tab))).modify 5 (put .u8 (ofTab Rows.laid_math_bits_deBruijn64tab))).modify 2 (put .u64 (ofTab Rows.laid_internal_strconv_uint64pow10))).modify 1 (put .u8 (ofTab2 Rows.laid_unicode_utf8_acceptRanges))).modify 0 (put .u8 (ofTab Rows.laid_unicode_utf8_first)) }
theorem laid_met (os : Os) (args : Array Value) : laidMet Tryd.prog tabs ((laidWorld os).forCall (fun _ _ => 0) ⟨#[], args, []⟩).memory :=
  laidMet_of_run' 8 (by kernel_rfl) (by kernel_rfl)
end Go.Proofs.YtifccjchpciicaaDoor
