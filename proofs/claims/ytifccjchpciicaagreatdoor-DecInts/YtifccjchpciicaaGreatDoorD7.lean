/- What the document's own functions tell, by parts. -/
import Derived.Test.YtifccjchpciicaaGreatDoorD6
namespace Go.Proofs.YtifccjchpciicaaGreatDoor
open Go.RowKit
open Go.Lib (decDigits nDigits)

def dN : Option (Bool × Nat × Int) → Bool
  | some (n, _, _) => n
  | none => false
def dS : Option (Bool × Nat × Int) → ByteArray
  | some (_, a, _) => decB a
  | none => noB
def dX : Option (Bool × Nat × Int) → Int
  | some (_, _, e) => e
  | none => 0
theorem DecVal_parts (r : Option (Bool × Nat × Int)) : DecVal r = .agg #[.bool (dN r), .string (dS r), .int .i64 (dX r)] := by rcases r with _ | ⟨n, a, e⟩ <;> rfl
def pD (p : Option ((Bool × Nat × Int) × List UInt8)) : Option (Bool × Nat × Int) := p.map (·.1)
def pR (s : ByteArray) : Option ((Bool × Nat × Int) × List UInt8) → ByteArray
  | some (_, r) => ⟨r.toArray⟩
  | none => s
theorem ParRes_parts (s : ByteArray) (p : Option ((Bool × Nat × Int) × List UInt8)) : ParRes s p = .tuple #[.agg #[.bool (dN (pD p)), .string (dS (pD p)), .int .i64 (dX (pD p))], .string (pR s p), .int .i64 (decE (pD p))] := by
  rcases p with _ | ⟨⟨n, a, e⟩, r⟩ <;> rfl
def fS (n : Bool) (s : ByteArray) (e : Int) : ByteArray := if rightD n s.data.toList e = true then sgnB n (fmtB s e) else noB
def fE (n : Bool) (s : ByteArray) (e : Int) : Int := if rightD n s.data.toList e = true then 0 else 40
def tN : Option (Bool × Nat) → Bool
  | some (n, _) => n
  | none => false
def tK : Option (Bool × Nat) → Nat
  | some (_, k) => k
  | none => 0
theorem ToRes_parts (r : Option (Bool × Nat)) : ToRes r = .tuple #[.bool (tN r), .int .u64 (tK r : Int), .bool r.isSome] := by rcases r with _ | ⟨n, k⟩ <;> rfl

/-- What a call that makes a decimal tells. -/
def DecP (R : Option (Bool × Nat × Int)) (w : World) (o : Ending) (w' : World) : Prop := o = .returned (.tuple #[.agg #[.bool (dN R), .string (dS R), .int .i64 (dX R)], .int .i64 (decE R)]) ∧ Below w.heap.size w w'
def ParP (s : ByteArray) (p : Option ((Bool × Nat × Int) × List UInt8)) (w : World) (o : Ending) (w' : World) : Prop := o = .returned (.tuple #[.agg #[.bool (dN (pD p)), .string (dS (pD p)), .int .i64 (dX (pD p))], .string (pR s p), .int .i64 (decE (pD p))]) ∧ Below w.heap.size w w'
def FmtP (n : Bool) (s : ByteArray) (e : Int) (w : World) (o : Ending) (w' : World) : Prop := o = .returned (.tuple #[.string (fS n s e), .int .i64 (fE n s e)]) ∧ Below w.heap.size w w'
def ValP (R : Option (Bool × Nat × Int)) (w : World) (o : Ending) (w' : World) : Prop := o = .returned (.agg #[.bool (dN R), .string (dS R), .int .i64 (dX R)]) ∧ Below w.heap.size w w'
def ToP (R : Option (Bool × Nat)) (w : World) (o : Ending) (w' : World) : Prop := o = .returned (.tuple #[.bool (tN R), .int .u64 (tK R : Int), .bool R.isSome]) ∧ Below w.heap.size w w'
def BoolP (b : Bool) (w : World) (o : Ending) (w' : World) : Prop := o = .returned (.bool b) ∧ Below w.heap.size w w'

theorem rRight_p (n : Bool) (s : ByteArray) (e : Int) (w : World) : Calls Tryz.prog 17 #[.agg #[.bool n, .string s, .int .i64 e]] w (BoolP (rightD n s.data.toList e) w) := right_agg rfl w
theorem rMake_p (n : Bool) (s : ByteArray) (e : Int) (w : World) : Calls Tryz.prog 22 #[.bool n, .string s, .int .i64 e] w (DecP (makeR n s.data.toList e) w) :=
  (rMake_calls n s e w).mono fun o w' ⟨h1, h2⟩ => ⟨by rw [h1, DecRes_eq, DecVal_parts], h2⟩
theorem rOfInt_p (n : Bool) (k : Nat) (w : World) (hk : k < 18446744073709551616) : Calls Tryz.prog 10 #[.bool n, .int .u64 (k : Int)] w (ValP (makeR n (decDigits k) 0) w) :=
  (rOfInt_calls n k w hk).mono fun o w' ⟨h1, h2⟩ => ⟨by rw [h1, DecVal_parts], h2⟩
theorem rToInt_p (n : Bool) (s : ByteArray) (e : Int) (w : World) : Calls Tryz.prog 8 #[.agg #[.bool n, .string s, .int .i64 e]] w (ToP (toI n s.data.toList e) w) :=
  (rToInt_calls n s e w).mono fun o w' ⟨h1, h2⟩ => ⟨by rw [h1, ToRes_parts], h2⟩
end Go.Proofs.YtifccjchpciicaaGreatDoor
