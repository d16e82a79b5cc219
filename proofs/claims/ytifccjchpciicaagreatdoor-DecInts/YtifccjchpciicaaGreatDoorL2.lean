/- The walks of DecMakes and DecInts. -/
import Derived.Test.YtifccjchpciicaaGreatDoorL1
import Derived.Deep.RegionHeld3
namespace Go.Proofs.YtifccjchpciicaaGreatDoor
open Go.RowKit
open Go.Lib (decDigits nDigits)

theorem ans_right (n : Bool) (s : ByteArray) (e : Int) : ∃ b : Bool, Ans 14 #[.agg #[.bool n, .string s, .int .i64 e]] (.bool b) ∧ Ans 17 #[.agg #[.bool n, .string s, .int .i64 e]] (.bool b) :=
  ⟨_, fun w h => Right_calls n s e w h, fun w _ => rRight_p n s e w⟩

theorem ans_ofInt (n : Bool) (k : Nat) (hk : k < 18446744073709551616) : ∃ (m : Bool) (d : ByteArray) (x : Int), Ans 9 #[.bool n, .int .u64 (k : Int)] (.agg #[.bool m, .string d, .int .i64 x]) ∧ Ans 10 #[.bool n, .int .u64 (k : Int)] (.agg #[.bool m, .string d, .int .i64 x]) :=
  ⟨_, _, _, fun w h => OfInt_calls n k w hk h, fun w _ => rOfInt_p n k w hk⟩
theorem ans_toInt (n : Bool) (s : ByteArray) (e : Int) : ∃ (m : Bool) (k : Nat) (b : Bool), Ans 7 #[.agg #[.bool n, .string s, .int .i64 e]] (.tuple #[.bool m, .int .u64 (k : Int), .bool b]) ∧ Ans 8 #[.agg #[.bool n, .string s, .int .i64 e]] (.tuple #[.bool m, .int .u64 (k : Int), .bool b]) :=
  ⟨_, _, _, fun w h => ToInt_calls n s e w h, fun w _ => rToInt_p n s e w⟩

set_option maxRecDepth 100000 in
set_option maxHeartbeats 2000000 in
theorem ints_calls (neg : Bool) (k : Nat) (n : Bool) (s : ByteArray) (e : Int) (w : World) (hk : k < 18446744073709551616) (hT : Tb w) : Calls Tryz.prog 3 #[.bool neg, .int .u64 (k : Int), .agg #[.bool n, .string s, .int .i64 e]] w (BoolP true w) := by
  obtain ⟨m, d, x, O1, O2⟩ := ans_ofInt neg k hk
  obtain ⟨m2, k2, b2, T1, T2⟩ := ans_toInt n (cutB 200 s) e
  have HO1 := Lib.hid O1
  have HO2 := Lib.hid O2
  have HT1 := Lib.hid T1
  have HT2 := Lib.hid T2
  have HT := Lib.hid hT
  clear O1 O2 T1 T2 hT hk
  go_enter Tryz.func3, Tryz.ntmps3
  go_wp2_with fail
  have A0 := Lib.hid (DecAt.new w n s e)
  have B0 := Lib.hid ((Below.refl _ w).alloc (Nat.le_refl _) (.cells #[.bool n, .string s, .int .i64 e] 24))
  refine (shown_calls _ (HT.out.below B0.out)).mono ?_
  rintro o w1 ⟨rfl, hb1⟩
  have A1 := Lib.hid (A0.out.below hb1)
  have B1 := Lib.hid (below_next B0.out hb1)
  have c0 := A1.out.c0
  have c1 := A1.out.c1
  have c2 := A1.out.c2
  clear hb1
  go_wp2_with fail
  refine (Cut_calls _ _ _ _).mono ?_
  rintro o w2 ⟨rfl, hb2⟩
  have A2 := Lib.hid (A1.out.below hb2)
  have B2 := Lib.hid (below_next B1.out hb2)
  clear hb2 c0 c1 c2
  have c0 := A2.out.c0
  have c1 := A2.out.c1
  have c2 := A2.out.c2
  have f0 := A2.out.f 0
  have f1 := A2.out.f 1
  have f2 := A2.out.f 2
  have hz := A2.out.lt
  go_wp2_with fail
  have A3 := Lib.hid (A2.out.set (n' := n) (s' := cutB 200 s) (e' := e))
  have B3 := Lib.hid (below_setD B2.out (Nat.le_refl _) n (cutB 200 s) e)
  obtain ⟨W3, hW3⟩ : ∃ W3, W3 = setD w2 w.heap.size n (cutB 200 s) e := ⟨_, rfl⟩
  rw [← hW3] at A3 B3
  rw [show ((w2.setCell ⟨w.heap.size, 0, none⟩ (.bool n)).setCell ⟨w.heap.size, 1, none⟩ (.string (cutB 200 s))).setCell ⟨w.heap.size, 2, none⟩ (.int .i64 e) = W3 from hW3.symm]
  clear hW3 c0 c1 c2 f0 f1 f2 hz A0 A1 A2 B0 B1 B2
  refine (HT1.out _ (HT.out.below B3.out)).mono ?_
  rintro o w4 ⟨rfl, hb4⟩
  have A4 := Lib.hid (A3.out.below hb4)
  have B4 := Lib.hid (below_next B3.out hb4)
  have c0 := A4.out.c0
  have c1 := A4.out.c1
  have c2 := A4.out.c2
  clear hb4
  go_wp2_with fail
  refine (HT2.out _ (HT.out.below B4.out)).mono ?_
  rintro o w5 ⟨rfl, hb5⟩
  have B5 := Lib.hid (below_next B4.out hb5)
  clear hb5 c0 c1 c2
  go_wp2_with fail
  refine (HO1.out _ (HT.out.below B5.out)).mono ?_
  rintro o w6 ⟨rfl, hb6⟩
  have B6 := Lib.hid (below_next B5.out hb6)
  clear hb6
  go_wp2_with fail
  refine (HO2.out _ (HT.out.below B6.out)).mono ?_
  rintro o w7 ⟨rfl, hb7⟩
  have B7 := Lib.hid (below_next B6.out hb7)
  clear hb7
  go_wp2
  go_ret
  exact ⟨rfl, B7.out⟩
end Go.Proofs.YtifccjchpciicaaGreatDoor
