/- The walk of FloatDecimals. -/
import Derived.Test.YtgcalhnfoakggaaGreatDoorK1
import Derived.Test.YtgcalhnfoakggaaGreatDoorV4
namespace Go.Proofs.YtgcalhnfoakggaaGreatDoor
open Go.RowKit
open Go.Lib (decDigits nDigits)

set_option maxRecDepth 100000 in
set_option maxHeartbeats 400000 in
theorem decimals_walk (b : Nat) (n : Bool) (s : ByteArray) (x E : Int) (w : World) (hT : Tf w)
    (h1 : Ans 18 #[.int .u64 (b : Int)] (.tuple #[.agg #[.bool n, .string s, .int .i64 x], .int .i64 E]))
    (h2 : Ans 19 #[.int .u64 (b : Int)] (.tuple #[.agg #[.bool n, .string s, .int .i64 x], .int .i64 E])) :
    Calls Tryz.prog 4 #[.int .u64 (b : Int)] w (BoolP true w) := by
  have H1 := Lib.hid h1
  have H2 := Lib.hid h2
  have HT := Lib.hid hT
  clear h1 h2 hT
  go_enter Tryz.func4, Tryz.ntmps4
  go_wp2_with fail
  refine (shown_calls _ HT.out).mono ?_
  rintro o w1 ⟨rfl, hb1⟩
  have B1 := Lib.hid hb1
  clear hb1
  go_wp2_with fail
  refine (H1.out _ (HT.out.below B1.out)).mono ?_
  rintro o w2 ⟨rfl, hb2⟩
  have B2 := Lib.hid (below_al (below_next B1.out hb2) (.cells #[.bool n, .string s, .int .i64 x] 34))
  have D2 := Lib.hid (At.new w2 #[.bool n, .string s, .int .i64 x] 34)
  clear hb2 B1
  go_wp2_with fail
  refine (H2.out _ (HT.out.below B2.out)).mono ?_
  rintro o w3 ⟨rfl, hb3⟩
  have B3 := Lib.hid (below_al (below_next B2.out hb3) (.cells #[.bool n, .string s, .int .i64 x] 34))
  have D3 := Lib.hid (D2.out.below hb3)
  have hlt : w2.heap.size < w3.heap.size := D3.out.lt
  have c0 := D3.out.c 0 rfl
  have c1 := D3.out.c 1 rfl
  have c2 := D3.out.c 2 rfl
  clear hb3 B2 D2
  go_wp2
  go_ret
  exact ⟨rfl, B3.out⟩
theorem decimals_calls (b : Nat) (w : World) (hb : b < 18446744073709551616) (hT : Tf w) : Calls Tryz.prog 4 #[.int .u64 (b : Int)] w (BoolP true w) :=
  decimals_walk b _ _ _ _ w hT (fun W h => ToDec_calls b W hb h) (fun W _ => rToDec_calls b W hb)
end Go.Proofs.YtgcalhnfoakggaaGreatDoor
