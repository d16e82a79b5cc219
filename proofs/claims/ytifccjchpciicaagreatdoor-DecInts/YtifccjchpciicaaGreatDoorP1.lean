/- Plain mathematics: what is written, and what it is read as. -/
import Derived.Test.YtifccjchpciicaaGreatDoorD5
namespace Go.Proofs.YtifccjchpciicaaGreatDoor
open Go.Lib (decDigits nDigits)

/-- A sign ahead. -/
def sgnL (l : List UInt8) : Bool := decide (l.head? = some 45)
def offL (l : List UInt8) : List UInt8 := if sgnL l = true then l.tail else l
/-- How many digits stand ahead of a point. -/
def leadN (r : List UInt8) : Nat := if r.head? = some 48 then 1 else ndig r
/-- How many digits stand behind a point; 0: there is no such point. -/
def fracN (r : List UInt8) : Nat := if r.head? = some 46 then ndig r.tail else 0
/-- What an exponent is, and how many bytes it takes; none: it has too many digits. -/
def isE (c : UInt8) : Bool := c == 101 || c == 69
def isS (c : UInt8) : Bool := c == 43 || c == 45
def headIs (p : UInt8 → Bool) (l : List UInt8) : Bool := match l with | [] => false | c :: _ => p c
def atN (r : List UInt8) : Nat := if headIs isS r.tail = true then 2 else 1
def expoR (r : List UInt8) : Option (Int × Nat) :=
  if headIs isE r = true then
    if 4 < ndig (r.drop (atN r)) then none
    else if ndig (r.drop (atN r)) = 0 then some (0, 0)
    else some ((if r.tail.head? = some 45 then -(dv ((r.drop (atN r)).take (ndig (r.drop (atN r)))) : Int) else (dv ((r.drop (atN r)).take (ndig (r.drop (atN r)))) : Int)), atN r + ndig (r.drop (atN r)))
  else some (0, 0)
/-- What is read: the digits, how many of them stand behind the point, what is behind. -/
def r1L (r0 : List UInt8) : List UInt8 := r0.drop (leadN r0)
def allD (r0 : List UInt8) : List UInt8 := r0.take (leadN r0) ++ (r1L r0).tail.take (fracN (r1L r0))
def r2L (r0 : List UInt8) : List UInt8 := if fracN (r1L r0) = 0 then r1L r0 else (r1L r0).drop (1 + fracN (r1L r0))
/-- The decimal of what is written, and what is behind it. -/
def parseR (l : List UInt8) : Option ((Bool × Nat × Int) × List UInt8) :=
  if ndig (offL l) = 0 then none
  else match expoR (r2L (offL l)) with
    | none => none
    | some (k, c) => match makeR (sgnL l) (allD (offL l)) (-(fracN (r1L (offL l)) : Int) + k) with
      | none => none
      | some d => some (d, (r2L (offL l)).drop c)

theorem ndig_all {l t : List UInt8} (h : l.all isD = true) (ht : headIs isD t = false) : ndig (l ++ t) = l.length := by
  induction l with
  | nil => cases t with
    | nil => rfl
    | cons c t => rw [List.nil_append, ndig, List.takeWhile_cons, show isD c = false from ht]; rfl
  | cons c l ih =>
    simp only [List.all_cons, Bool.and_eq_true] at h
    rw [List.cons_append, ndig, List.takeWhile_cons, h.1]
    simp only [if_true, List.length_cons]
    rw [show ((l ++ t).takeWhile isD).length = l.length from ih h.2]
theorem ndig_none {t : List UInt8} (ht : headIs isD t = false) : ndig t = 0 := ndig_all (l := []) rfl ht
theorem ndig_one {l : List UInt8} (h : headIs isD l = true) : 0 < ndig l := by
  cases l with
  | nil => cases h
  | cons c l => rw [ndig, List.takeWhile_cons, show isD c = true from h]; simp

/-- What does not go on with a number. -/
structure Stop (t : List UInt8) : Prop where
  dig : headIs isD t = false
  e : headIs isE t = false
  point : t.head? ≠ some 46
theorem Stop.nil : Stop [] := ⟨rfl, rfl, by simp⟩
theorem Stop.comma (t : List UInt8) : Stop (44 :: t) := ⟨(show isD 44 = false by decide), (show isE 44 = false by decide), by simp⟩
theorem Stop.brack (t : List UInt8) : Stop (93 :: t) := ⟨(show isD 93 = false by decide), (show isE 93 = false by decide), by simp⟩
theorem expoR_stop {t : List UInt8} (h : Stop t) : expoR t = some (0, 0) := by rw [expoR, h.e]; rfl

/-- Digits of a natural: they begin with no 0, or are it. -/
theorem nat_lead {l t : List UInt8} (h : isNat l = true) (ht : headIs isD t = false) : ndig (l ++ t) = l.length ∧ leadN (l ++ t) = l.length ∧ l ≠ [] := by
  obtain ⟨h1, h2, h3, h4⟩ := isNat_parts h
  have hn := ndig_all h4 ht
  refine ⟨hn, ?_, h1⟩
  rw [leadN]
  split
  · rename_i h5
    rcases h3 with h3 | h3
    · cases l with
      | nil => exact absurd rfl h1
      | cons c l => simp at h5 h3; exact absurd h5 h3
    · rw [h3]; rfl
  · exact hn
end Go.Proofs.YtifccjchpciicaaGreatDoor
