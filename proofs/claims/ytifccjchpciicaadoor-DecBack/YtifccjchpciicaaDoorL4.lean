/- The walk of DecWhole. -/
import Derived.Test.YtifccjchpciicaaDoorL3
namespace Go.Proofs.YtifccjchpciicaaDoor
open Go.RowKit
open Go.Lib (decDigits nDigits)

theorem decB_20 {k : Nat} (h : k < 18446744073709551616) : (decB k).size ≤ 20 := decB_size h

end Go.Proofs.YtifccjchpciicaaDoor
