/- The walk of the document's own Parse. -/
import Derived.Test.YtifccjchpciicaaGreatDoorP3
namespace Go.Proofs.YtifccjchpciicaaGreatDoor
open Go.RowKit
open Go.Lib (decDigits nDigits)

/-- What Parse tells. -/
def ParRes (s : ByteArray) : Option ((Bool × Nat × Int) × List UInt8) → Value
  | some ((n, a, e), r) => .tuple #[decV n (decB a) e, .string ⟨r.toArray⟩, .int .i64 0]
  | none => .tuple #[decV false noB 0, .string s, .int .i64 40]
def ParPost (s : ByteArray) (w : World) (o : Ending) (w' : World) : Prop := o = .returned (ParRes s (parseR s.data.toList)) ∧ Below w.heap.size w w'
theorem par_no {s : ByteArray} {w w' : World} (h : parseR s.data.toList = none) (hb : Below w.heap.size w w') : ParPost s w (.returned (.tuple #[.agg #[.bool false, .string ⟨#[]⟩, .int .i64 0], .string s, .int .i64 40])) w' := ⟨by rw [h]; rfl, hb⟩

theorem head_byte {s : ByteArray} (h : 0 < s.size) : s.data.toList.head? = some (byteAt s 0) := by
  rw [byteAt_list, List.head?_eq_getElem?]
  have hl : 0 < s.data.toList.length := by rw [← Lib.size_eq]; exact h
  rw [List.getElem?_eq_getElem hl]; rfl
theorem nil_of {s : ByteArray} (h : s.size = 0) : s.data.toList = [] := List.eq_nil_of_length_eq_zero (by rw [← Lib.size_eq]; exact h)
theorem sgn_at {s : ByteArray} (h : 0 < s.size) : sgnL s.data.toList = (((byteAt s 0).toNat : Int) == 45) := by
  rw [sgnL, head_byte h]
  by_cases hc : (byteAt s 0).toNat = 45
  · have : byteAt s 0 = 45 := UInt8.toNat_inj.1 hc
    rw [this]; rfl
  · have h2 : ¬ byteAt s 0 = 45 := fun e => hc (by rw [e]; rfl)
    rw [show ((((byteAt s 0).toNat : Int)) == 45) = false from by simp; omega]
    simpa using h2

theorem head_is {p : UInt8 → Bool} {s : ByteArray} (h : 0 < s.size) : headIs p s.data.toList = p (byteAt s 0) := by
  have hh := head_byte h
  cases e : s.data.toList with
  | nil => rw [e] at hh; cases hh
  | cons c r => rw [e] at hh; rw [← Option.some.inj hh]; rfl
theorem tail_is {p : UInt8 → Bool} {s : ByteArray} (h : 1 < s.size) : headIs p s.data.toList.tail = p (byteAt s 1) ∧ s.data.toList.tail.head? = some (byteAt s 1) := by
  have hl : 1 < s.data.toList.length := by rw [← Lib.size_eq]; exact h
  have hb : s.data.toList[1]? = some (byteAt s 1) := by rw [byteAt_list, List.getElem?_eq_getElem hl]; rfl
  cases e : s.data.toList with
  | nil => rw [e] at hl; simp at hl
  | cons c r =>
    cases e2 : r with
    | nil => rw [e, e2] at hl; simp at hl
    | cons d r2 =>
      rw [e, e2] at hb
      simp at hb
      subst hb
      exact ⟨rfl, rfl⟩
theorem tail_no {s : ByteArray} (h : ¬ 1 < s.size) : s.data.toList.tail = [] := List.eq_nil_of_length_eq_zero (by rw [List.length_tail, ← Lib.size_eq]; omega)
theorem isE_at (c : UInt8) : isE c = ((c.toNat : Int) == 101 || (c.toNat : Int) == 69) := by
  have h (k : UInt8) (m : Nat) (hm : k.toNat = m) : (c == k) = ((c.toNat : Int) == (m : Int)) := by
    by_cases e : c = k
    · subst e; rw [hm]; simp
    · have : ¬ c.toNat = m := fun e2 => e (UInt8.toNat_inj.1 (by rw [e2, hm]))
      rw [show (c == k) = false from by simpa using e, show ((c.toNat : Int) == (m : Int)) = false from by simp; omega]
  rw [isE, h 101 101 rfl, h 69 69 rfl]; rfl
theorem isS_at (c : UInt8) : isS c = ((c.toNat : Int) == 43 || (c.toNat : Int) == 45) := by
  have h (k : UInt8) (m : Nat) (hm : k.toNat = m) : (c == k) = ((c.toNat : Int) == (m : Int)) := by
    by_cases e : c = k
    · subst e; rw [hm]; simp
    · have : ¬ c.toNat = m := fun e2 => e (UInt8.toNat_inj.1 (by rw [e2, hm]))
      rw [show (c == k) = false from by simpa using e, show ((c.toNat : Int) == (m : Int)) = false from by simp; omega]
  rw [isS, h 43 43 rfl, h 45 45 rfl]; rfl
theorem ndig_at : ∀ (l : List UInt8) (j : Nat), j < ndig l → ∃ c, l[j]? = some c ∧ isD c = true
  | [], j, h => by simp [ndig] at h
  | c :: l, j, h => by
    by_cases hc : isD c = true
    · cases j with
      | zero => exact ⟨c, rfl, hc⟩
      | succ j =>
        have : j < ndig l := by
          rw [ndig, List.takeWhile_cons, hc] at h
          simp only [if_true, List.length_cons] at h
          exact Nat.lt_of_succ_lt_succ h
        obtain ⟨d, h1, h2⟩ := ndig_at l j this
        exact ⟨d, by simpa using h1, h2⟩
    · rw [ndig, List.takeWhile_cons, if_neg hc] at h; simp at h
theorem ext_all (s : ByteArray) : s.extract 0 s.size = s := str_inj (by rw [Lib.extract_data, List.drop_zero, Nat.sub_zero, List.take_of_length_le (by rw [← Lib.size_eq]; exact Nat.le_refl _)])
/-- What is made, and what is behind. -/
def withR (r : List UInt8) : Option (Bool × Nat × Int) → Option ((Bool × Nat × Int) × List UInt8)
  | none => none
  | some d => some (d, r)
theorem parse_with {l : List UInt8} {k : Int} {c : Nat} (h1 : ndig (offL l) ≠ 0) (h2 : expoR (r2L (offL l)) = some (k, c)) : parseR l = withR ((r2L (offL l)).drop c) (makeR (sgnL l) (allD (offL l)) (-(fracN (r1L (offL l)) : Int) + k)) := by
  rw [parseR_eq, parseC, if_neg h1, h2]
  simp only
  cases makeR (sgnL l) (allD (offL l)) (-(fracN (r1L (offL l)) : Int) + k) with
  | none => rfl
  | some d => rfl
/-- What lies behind the exponent. -/
def ExpRel (R2 : ByteArray) (f : Nat) (r x : Value) : Prop := ∃ (k : Int) (c : Nat), expoR R2.data.toList = some (k, c) ∧ r = .string (R2.extract c R2.size) ∧ x = .int .i64 (-(f : Int) + k)

end Go.Proofs.YtifccjchpciicaaGreatDoor
