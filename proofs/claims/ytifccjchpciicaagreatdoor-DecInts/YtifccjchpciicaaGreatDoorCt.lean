/- The program's contracts. -/
import Derived.Test.YtifccjchpciicaaGreatDoorEF
import Derived.Test.YtifccjchpciicaaGreatDoorEr
import Derived.Test.YtifccjchpciicaaGreatDoorEG
namespace Go.Proofs.YtifccjchpciicaaGreatDoor
open Go.RowKit
open Go.Lib (decDigits nDigits)

/-- What the world must hold. -/
def Tb (w : World) : Prop := Tab w ∧ ErrT w
theorem Tb.below {w w' : World} (h : Tb w) (hb : Below w.heap.size w w') : Tb w' := ⟨h.1.below hb, h.2.below hb⟩
theorem Right_calls (n : Bool) (s : ByteArray) (e : Int) (w : World) (_ : Tb w) : Calls Tryz.prog 14 #[.agg #[.bool n, .string s, .int .i64 e]] w (BoolP (rightD n s.data.toList e) w) := pRight_calls n s e w
theorem Format_calls (n : Bool) (s : ByteArray) (e : Int) (w : World) (h : Tb w) : Calls Tryz.prog 11 #[.agg #[.bool n, .string s, .int .i64 e]] w (FmtP n s e w) := pFormat_calls n s e w h.1
theorem Make_calls (n : Bool) (s : ByteArray) (e : Int) (w : World) (hs : s.size ≤ 400) (_ : Tb w) : Calls Tryz.prog 20 #[.bool n, .string s, .int .i64 e] w (DecP (makeR n s.data.toList e) w) := pMake_calls n s e w hs
theorem Parse_calls (s : ByteArray) (w : World) (hs : s.size ≤ 100000) (_ : Tb w) : Calls Tryz.prog 13 #[.string s] w (ParP s (parseR s.data.toList) w) := pParse_calls s w hs
theorem cells3 {w w2 : World} {a0 a1 a2 : Value} {T : TypeId} (hb : Below (w.alloc (.cells #[a0, a1, a2] T)).heap.size (w.alloc (.cells #[a0, a1, a2] T)) w2) :
    (w2.cell? ⟨w.heap.size, 0, none⟩ = some a0 ∧ w2.cell? ⟨w.heap.size, 1, none⟩ = some a1 ∧ w2.cell? ⟨w.heap.size, 2, none⟩ = some a2) ∧ (w2.frozen? ⟨w.heap.size, 0, none⟩ = false ∧ w2.frozen? ⟨w.heap.size, 1, none⟩ = false ∧ w2.frozen? ⟨w.heap.size, 2, none⟩ = false) ∧ w.heap.size < w2.heap.size ∧ Below w.heap.size w w2 :=
  ⟨(one_dec hb).1, ⟨(hb.frozen (p := ⟨w.heap.size, 0, none⟩) (by simp)).trans (by simp), (hb.frozen (p := ⟨w.heap.size, 1, none⟩) (by simp)).trans (by simp), (hb.frozen (p := ⟨w.heap.size, 2, none⟩) (by simp)).trans (by simp)⟩, (one_dec hb).2⟩
theorem OfInt_calls (n : Bool) (k : Nat) (w : World) (hk : k < 18446744073709551616) (h : Tb w) : Calls Tryz.prog 9 #[.bool n, .int .u64 (k : Int)] w (ValP (makeR n (decDigits k) 0) w) := pOfInt_calls n k w hk h.1
theorem ToInt_calls (n : Bool) (s : ByteArray) (e : Int) (w : World) (h : Tb w) : Calls Tryz.prog 7 #[.agg #[.bool n, .string s, .int .i64 e]] w (ToP (toI n s.data.toList e) w) := pToInt_calls n s e w h.2
end Go.Proofs.YtifccjchpciicaaGreatDoor
