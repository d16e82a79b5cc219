/- The walks of the document's own OfInt and ToInt. -/
import Derived.Test.YtifccjchpciicaaDoorD4
import Derived.Deep.RegionWith
namespace Go.Proofs.YtifccjchpciicaaDoor
open Go.RowKit
open Go.Lib (decDigits nDigits)

/-- A decimal's value, and the number of the error beside it. -/
def DecVal : Option (Bool × Nat × Int) → Value
  | some (n, a, e) => decV n (decB a) e
  | none => decV false noB 0
def decE : Option (Bool × Nat × Int) → Int
  | some _ => 0
  | none => 40
theorem DecRes_eq (r : Option (Bool × Nat × Int)) : DecRes r = .tuple #[DecVal r, .int .i64 (decE r)] := by
  rcases r with _ | ⟨n, a, e⟩ <;> rfl
theorem DecVal_agg (r : Option (Bool × Nat × Int)) : ∃ (n : Bool) (s : ByteArray) (e : Int), DecVal r = .agg #[.bool n, .string s, .int .i64 e] := by
  rcases r with _ | ⟨n, a, e⟩
  · exact ⟨_, _, _, rfl⟩
  · exact ⟨_, _, _, rfl⟩

/-- What ToInt tells of a decimal. -/
def toI (n : Bool) (l : List UInt8) (e : Int) : Option (Bool × Nat) :=
  if rightD n l e = true ∧ 0 ≤ e ∧ e ≤ 20 ∧ dv l * 10 ^ e.toNat < 18446744073709551616 then some (n, dv l * 10 ^ e.toNat) else none
def ToRes : Option (Bool × Nat) → Value
  | some (n, k) => .tuple #[.bool n, .int .u64 (k : Int), .bool true]
  | none => .tuple #[.bool false, .int .u64 0, .bool false]
theorem dv_zeros (l : List UInt8) (k : Nat) : dv (l ++ List.replicate k 48) = dv l * 10 ^ k := by
  induction k with
  | zero => simp
  | succ k ih => rw [List.replicate_succ', ← List.append_assoc, dv_snoc, ih, Nat.pow_succ, Nat.mul_assoc]; rfl
theorem nat_zeros {n : Bool} {l : List UInt8} {k : Nat} (h : rightD n l (k : Int) = true) (hk : k ≤ 20) : isNat (l ++ List.replicate k 48) = true := by
  obtain ⟨h1, h2, _, _⟩ := right_parts h
  obtain ⟨g1, g2, g3, g4⟩ := isNat_parts h1
  by_cases hz : l = [48]
  · subst hz
    rw [rightD_zero] at h
    simp at h
    obtain ⟨rfl, _⟩ := h
    decide
  · have hh : l.head? ≠ some 48 := by
      rcases g3 with g | g
      · exact g
      · exact absurd g hz
    have hne : (l ++ List.replicate k 48).isEmpty = false := by
      cases l with
      | nil => exact absurd rfl g1
      | cons c l => rfl
    rw [isNat, hne, List.all_append, g4, List.length_append, List.length_replicate]
    have h5 : ((l ++ List.replicate k 48).head? != some 48) = true := by
      cases l with
      | nil => exact absurd rfl g1
      | cons c l =>
        simp only [List.cons_append, List.head?_cons] at hh ⊢
        simpa using hh
    have h6 : (List.replicate k (48 : UInt8)).all isD = true := by
      rw [List.all_replicate]
      split
      · rfl
      · decide
    rw [h5, h6]
    simp
    omega

end Go.Proofs.YtifccjchpciicaaDoor
