/- What the cards' frames share: the listed tables, a world that holds them. -/
import Derived.Test.YtifccjchpciicaaGreatDoorFd
import Derived.Test.YtifccjchpciicaaGreatDoorCards
import Derived.Test.YtifccjchpciicaaGreatDoorTie
import Derived.Test.YtifccjchpciicaaGreatDoorCt
import Derived.Deep.DeepHandedRow
import Derived.Lib.LaidTab
import Derived.Stop.LaidErr
namespace Go.Proofs.YtifccjchpciicaaGreatDoor
open Go.ChangeShapes Go.WideShapes Go.ChangeAt Go.RowKit

theorem gPow : Tryz.prog.globalNamed "internal/strconv.uint64pow10" = some 3 := by kernel_rfl
theorem gPowT : (Tryz.prog.globals[3]?).map (·.type) = some 133 := by kernel_rfl
theorem cells20 : Tryz.prog.cellsOf 133 = 20 := by kernel_rfl
theorem cells64 : Tryz.prog.cellsOf 22 = 1 := by kernel_rfl

theorem starE : "*" ++ "errors.errorString" = "*errors.errorString" := by decide
theorem rowE (u : TypeId) (h : Tryz.prog.typeName? 3 u = some "*errors.errorString") : u = 136 :=
  typeName_ptr_named (nm := "errors.errorString") (by rw [starE]; kernel_rfl) (by kernel_rfl) (by decide) u (by rw [starE]; exact h)
theorem gRange : Tryz.prog.globalNamed "strconv.ErrRange" = some 1 := by kernel_rfl
theorem gRangeT : (Tryz.prog.globals[1]?).map (·.type) = some 57 := by kernel_rfl
theorem cellsES : Tryz.prog.cellsOf 138 = 1 := by kernel_rfl
theorem cellsStr : Tryz.prog.cellsOf 9 = 1 := by kernel_rfl

def tabs : List (String × DataW Unit) := [("math/bits.deBruijn32tab", Rows.laid_math_bits_deBruijn32tab), ("math/bits.deBruijn64tab", Rows.laid_math_bits_deBruijn64tab), ("internal/strconv.uint64pow10", Rows.laid_internal_strconv_uint64pow10), ("unicode/utf8.acceptRanges", Rows.laid_unicode_utf8_acceptRanges), ("strconv.ErrRange", Rows.laid_strconv_ErrRange), ("strconv.ErrSyntax", Rows.laid_strconv_ErrSyntax), ("unicode/utf8.first", Rows.laid_unicode_utf8_first)]
theorem tab_of {W : World} (h : laidMetH Tryz.prog tabs W) : Tab W :=
  Lib.tabIs_of_head (rest := [("unicode/utf8.acceptRanges", Rows.laid_unicode_utf8_acceptRanges), ("strconv.ErrRange", Rows.laid_strconv_ErrRange), ("strconv.ErrSyntax", Rows.laid_strconv_ErrSyntax), ("unicode/utf8.first", Rows.laid_unicode_utf8_first)]) gPow gPowT Tryz.underlying133 Tryz.underlying22 cells64 cells20 (laidMet.tail (laidMet.tail (show laidMet Tryz.prog tabs W from h)))
theorem errR_of {W : World} (h : laidMetH Tryz.prog tabs W) : ErrR W := by
  have h3 := laidMet.tail (laidMet.tail (laidMet.tail (laidMet.tail (show laidMet Tryz.prog tabs W from h))))
  obtain ⟨a, s, hv, _⟩ := laid_sentinel h3 gRange gRangeT Tryz.underlying57 rowE Tryz.underlying136 Tryz.underlying138 rfl rfl Tryz.underlying9 cellsES cellsStr
  have h0 := World.var?_cell gRange hv 0
  exact ⟨_, _, by simpa using h0⟩
theorem tb_of {W : World} (h : laidMetH Tryz.prog tabs W) : Tb W := ⟨tab_of h, errR_of h⟩

def put (k : IntKind) (zs : List Int) : Obj → Obj
  | .cells _ t frozen => .cells (zs.map (Value.int k)).toArray t frozen
  | o => o
def ofLit : DataW Unit → Int
  | .lit (.int _ n) => n
  | _ => 0
def ofTab (d : DataW Unit) : List Int := match d with
  | .agg l => l.map ofLit
  | _ => []
def ofTab2 (d : DataW Unit) : List Int := match d with
  | .agg l => (l.map ofTab).flatten
  | _ => []
def putV (v : Value) : Obj → Obj
  | .cells _ t frozen => .cells #[v] t frozen
  | o => o
def wordRange : ByteArray := ⟨#[118, 97, 108, 117, 101, 32, 111, 117, 116, 32, 111, 102, 32, 114, 97, 110, 103, 101]⟩
def wordFault : ByteArray := ⟨#[105, 110, 118, 97, 108, 105, 100, 32, 115, 121, 110, 116, 97, 120]⟩
/-- A world for a witness: the settled one with two blocks more, the tables and the errors as their initialisers lay them. -/
noncomputable def laidWorld (os : Os) : World :=
  { World.holding Tryz.prog os ⟨#[.cells #[.string wordFault] 138, .cells #[.string wordRange] 138], #[], []⟩ with heap := (((((((World.holding Tryz.prog os ⟨#[.cells #[.string wordFault] 138, .cells #[.string wordRange] 138], #[], []⟩).heap.modify 6 (put .u8 (ofTab Rows.laid_math_bits_deBruijn32tab))).modify 7 (put .u8 (ofTab Rows.laid_math_bits_deBruijn64tab))).modify 3 (put .u64 (ofTab Rows.laid_internal_strconv_uint64pow10))).modify 5 (put .u8 (ofTab2 Rows.laid_unicode_utf8_acceptRanges))).modify 4 (put .u8 (ofTab Rows.laid_unicode_utf8_first))).modify 0 (putV (.iface 136 (.pointer (some ⟨(World.settled Tryz.prog os).heap.size, 0, none⟩))))).modify 1 (putV (.iface 136 (.pointer (some ⟨(World.settled Tryz.prog os).heap.size + 1, 0, none⟩)))) }
theorem laid_met (os : Os) (args : Array Value) : laidMet Tryz.prog tabs ((laidWorld os).forCall (fun _ _ => 0) ⟨#[], args, []⟩).memory :=
  laidMet_of_run' 8 (by kernel_rfl) (by kernel_rfl)
end Go.Proofs.YtifccjchpciicaaGreatDoor
