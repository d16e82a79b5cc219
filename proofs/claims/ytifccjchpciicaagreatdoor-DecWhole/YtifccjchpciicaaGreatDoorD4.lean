/- The walks of the document's own Num and Format. -/
import Derived.Test.YtifccjchpciicaaGreatDoorD3
import Derived.Deep.QuietTactic
import Derived.BigQuiet
namespace Go.Proofs.YtifccjchpciicaaGreatDoor
open Go.RowKit
open Go.Lib (decDigits nDigits)

/-- A number's digits, with its sign. -/
def numB (x : Int) : ByteArray := if x < 0 then ⟨#[45]⟩ ++ decB x.natAbs else decB x.natAbs
theorem numB_pos (k : Nat) : numB (k : Int) = decB k := by rw [numB, if_neg (by omega), Int.natAbs_natCast]
theorem numB_neg {k : Nat} (h : 0 < k) : numB (-(k : Int)) = ⟨#[45]⟩ ++ decB k := by rw [numB, if_pos (by omega), Int.natAbs_neg, Int.natAbs_natCast]

theorem numB_size {x : Int} (h1 : -100000 ≤ x) (h2 : x ≤ 100000) : (numB x).size ≤ 21 := by
  have := decB_size (n := x.natAbs) (by omega)
  rw [numB]
  split
  · rw [ByteArray.size_append, show (ByteArray.mk #[45]).size = 1 from rfl]; omega
  · omega

/-- The plain writing's body. -/
def fmtB (s : ByteArray) (e : Int) : ByteArray :=
  if e < -20 ∨ 20 < e then s ++ ⟨#[101]⟩ ++ numB e
  else if 0 ≤ e then s ++ zerB e.toNat
  else (zerB (1 - e - s.size).toNat ++ s).extract 0 ((zerB (1 - e - s.size).toNat ++ s).size - e.natAbs) ++ ⟨#[46]⟩ ++ (zerB (1 - e - s.size).toNat ++ s).extract ((zerB (1 - e - s.size).toNat ++ s).size - e.natAbs) (zerB (1 - e - s.size).toNat ++ s).size
def sgnB (n : Bool) (s : ByteArray) : ByteArray := if n = true then ⟨#[45]⟩ ++ s else s
def FmtPost (n : Bool) (s : ByteArray) (e : Int) (w : World) (o : Ending) (w' : World) : Prop :=
  ((rightD n s.data.toList e = true ∧ o = .returned (.tuple #[.string (sgnB n (fmtB s e)), .int .i64 0])) ∨ (rightD n s.data.toList e = false ∧ o = .returned (.tuple #[.string noB, .int .i64 40]))) ∧ Below w.heap.size w w'

theorem one_dec {w w2 : World} {a0 a1 a2 : Value} {T : TypeId} (hb : Below (w.alloc (.cells #[a0, a1, a2] T)).heap.size (w.alloc (.cells #[a0, a1, a2] T)) w2) :
    (w2.cell? ⟨w.heap.size, 0, none⟩ = some a0 ∧ w2.cell? ⟨w.heap.size, 1, none⟩ = some a1 ∧ w2.cell? ⟨w.heap.size, 2, none⟩ = some a2) ∧ w.heap.size < w2.heap.size ∧ Below w.heap.size w w2 := by
  refine ⟨⟨(hb.cell (p := ⟨w.heap.size, 0, none⟩) (by simp)).trans (by simp), (hb.cell (p := ⟨w.heap.size, 1, none⟩) (by simp)).trans (by simp), (hb.cell (p := ⟨w.heap.size, 2, none⟩) (by simp)).trans (by simp)⟩, ?_, ((Below.refl _ w).alloc (Nat.le_refl _) _).trans (hb.mono (by simp))⟩
  have := hb.size
  simp at this
  omega

theorem right_agg {n : Bool} {s : ByteArray} {e : Int} {b : Bool} (h : rightD n s.data.toList e = b) (w : World) : Calls Tryz.prog 17 #[.agg #[.bool n, .string s, .int .i64 e]] w fun o w' => o = .returned (.bool b) ∧ Below w.heap.size w w' := by
  subst h
  exact rRight4_calls n s e w
theorem right_parts {n : Bool} {l : List UInt8} {e : Int} (h : rightD n l e = true) : isNat l = true ∧ l.length ≤ 100 ∧ -100 ≤ e ∧ e ≤ 100 := by
  rw [rightD, Bool.and_eq_true, Bool.and_eq_true] at h
  obtain ⟨⟨h1, h2⟩, h3⟩ := h
  refine ⟨h1, by simpa using h2, ?_⟩
  split at h3
  · simp at h3; omega
  · simp at h3; omega

theorem zeros_eq (x : Int) (m : Nat) (w : World) (h : x.toNat = m) (hx : x ≤ 100000) : Calls Tryz.prog 19 #[.int .i64 x] w fun o w' => o = .returned (.string (zerB m)) ∧ w = w' := by
  subst h
  exact zeros_calls x w hx

end Go.Proofs.YtifccjchpciicaaGreatDoor
