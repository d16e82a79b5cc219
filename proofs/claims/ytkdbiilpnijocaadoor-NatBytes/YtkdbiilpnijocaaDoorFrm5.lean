/- The frame where two errors of strconv are listed beside the tables. -/
import Derived.Test.YtkdbiilpnijocaaDoorFrm
namespace Go.Proofs.YtkdbiilpnijocaaDoor
open Go.ChangeShapes Go.WideShapes Go.ChangeAt Go.RowKit

def tabs5 : List (String × DataW Unit) := [("math/bits.deBruijn32tab", Rows.laid_math_bits_deBruijn32tab), ("math/bits.deBruijn64tab", Rows.laid_math_bits_deBruijn64tab), ("internal/strconv.uint64pow10", Rows.laid_internal_strconv_uint64pow10), ("strconv.ErrRange", Rows.laid_strconv_ErrRange), ("strconv.ErrSyntax", Rows.laid_strconv_ErrSyntax)]

theorem tab_of5 {W : World} (h : laidMetH Tryd.prog tabs5 W) : Tab W :=
  Lib.tabIs_of_head (rest := [("strconv.ErrRange", Rows.laid_strconv_ErrRange), ("strconv.ErrSyntax", Rows.laid_strconv_ErrSyntax)]) gPow gPowT Tryd.underlying117 Tryd.underlying36 cells36 cells117 (laidMet.tail (laidMet.tail (show laidMet Tryd.prog tabs5 W from h)))

def putV (v : Value) : Obj → Obj
  | .cells _ t frozen => .cells #[v] t frozen
  | o => o
def wordRange : ByteArray := ⟨#[118, 97, 108, 117, 101, 32, 111, 117, 116, 32, 111, 102, 32, 114, 97, 110, 103, 101]⟩
def wordFault : ByteArray := ⟨#[105, 110, 118, 97, 108, 105, 100, 32, 115, 121, 110, 116, 97, 120]⟩
/-- A world for a witness: the settled one with two blocks more, the tables and the errors as their initialisers lay them. -/
noncomputable def laidWorld5 (os : Os) : World :=
  { World.holding Tryd.prog os ⟨#[.cells #[.string wordFault] 123, .cells #[.string wordRange] 123], #[], []⟩ with
    heap := (((((World.holding Tryd.prog os ⟨#[.cells #[.string wordFault] 123, .cells #[.string wordRange] 123], #[], []⟩).heap.modify 4 (put .u8 (ofTab Rows.laid_math_bits_deBruijn32tab))).modify 5 (put .u8 (ofTab Rows.laid_math_bits_deBruijn64tab))).modify 2 (put .u64 (ofTab Rows.laid_internal_strconv_uint64pow10))).modify 0 (putV (.iface 121 (.pointer (some ⟨(World.settled Tryd.prog os).heap.size, 0, none⟩))))).modify 1 (putV (.iface 121 (.pointer (some ⟨(World.settled Tryd.prog os).heap.size + 1, 0, none⟩)))) }
theorem laid_met5 (os : Os) (args : Array Value) : laidMet Tryd.prog tabs5 ((laidWorld5 os).forCall (fun _ _ => 0) ⟨#[], args, []⟩).memory :=
  laidMet_of_run' 8 (by kernel_rfl) (by kernel_rfl)
end Go.Proofs.YtkdbiilpnijocaaDoor
