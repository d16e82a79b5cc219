/- The walks of DecMakes and DecInts. -/
import Derived.Test.YtifccjchpciicaaDoorL1
import Derived.Deep.RegionHeld3
namespace Go.Proofs.YtifccjchpciicaaDoor
open Go.RowKit
open Go.Lib (decDigits nDigits)

theorem ans_format (n : Bool) (s : ByteArray) (e : Int) : Ans 10 #[.agg #[.bool n, .string s, .int .i64 e]] (.tuple #[.string (fS n s e), .int .i64 (fE n s e)]) ∧ Ans 11 #[.agg #[.bool n, .string s, .int .i64 e]] (.tuple #[.string (fS n s e), .int .i64 (fE n s e)]) :=
  ⟨fun w h => Format_calls n s e w h, fun w _ => rFormat_p n s e w⟩
theorem ans_right (n : Bool) (s : ByteArray) (e : Int) : ∃ b : Bool, Ans 15 #[.agg #[.bool n, .string s, .int .i64 e]] (.bool b) ∧ Ans 16 #[.agg #[.bool n, .string s, .int .i64 e]] (.bool b) :=
  ⟨_, fun w h => Right_calls n s e w h, fun w _ => rRight_p n s e w⟩

end Go.Proofs.YtifccjchpciicaaDoor
