/- What the world must hold beside the table (nothing, where no error of the library is listed). -/
import Derived.Test.YtifccjchpciicaaDoorE0
namespace Go.Proofs.YtifccjchpciicaaDoor
def ErrT (_ : World) : Prop := True
theorem ErrT.below {w w' : World} (_ : ErrT w) (_ : Go.RowKit.Below w.heap.size w w') : ErrT w' := trivial
end Go.Proofs.YtifccjchpciicaaDoor
