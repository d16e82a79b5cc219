/- The walk of the document's own Make. -/
import Derived.Test.YtifccjchpciicaaGreatDoorD1
namespace Go.Proofs.YtifccjchpciicaaGreatDoor
open Go.RowKit
open Go.Lib (decDigits nDigits)

/-- A number without the zeros at its end, and how many they were. -/
def strp : Nat → Nat → Nat × Nat
  | 0, m => (m, 0)
  | f + 1, m => if m % 10 = 0 then ((strp f (m / 10)).1, (strp f (m / 10)).2 + 1) else (m, 0)
theorem strp_eq {a k : Nat} (ha : a % 10 ≠ 0) : ∀ {f : Nat}, k < f → strp f (a * 10 ^ k) = (a, k) := by
  induction k with
  | zero =>
    intro f hf
    obtain ⟨f, rfl⟩ : ∃ g, f = g + 1 := ⟨f - 1, by omega⟩
    rw [Nat.pow_zero, Nat.mul_one, strp, if_neg ha]
  | succ k ih =>
    intro f hf
    obtain ⟨f, rfl⟩ : ∃ g, f = g + 1 := ⟨f - 1, by omega⟩
    have e1 : a * 10 ^ (k + 1) / 10 = a * 10 ^ k := by rw [Nat.pow_succ, ← Nat.mul_assoc, Nat.mul_div_cancel _ (by omega)]
    have e2 : a * 10 ^ (k + 1) % 10 = 0 := by rw [Nat.pow_succ, ← Nat.mul_assoc, Nat.mul_mod_left]
    rw [strp, if_pos e2, e1, ih (by omega)]

/-- What is made of a sign, digits and an exponent. -/
def makeR (n : Bool) (l : List UInt8) (e : Int) : Option (Bool × Nat × Int) :=
  if l = [] ∨ 400 < l.length ∨ e < -1000 ∨ 1000 < e ∨ l.all isD = false then none
  else if dv l = 0 then some (false, 0, 0)
  else if nDigits (strp 401 (dv l)).1 ≤ 100 ∧ -100 ≤ e + (strp 401 (dv l)).2 ∧ e + (strp 401 (dv l)).2 ≤ 100 then some (n, (strp 401 (dv l)).1, e + (strp 401 (dv l)).2) else none
def DecRes : Option (Bool × Nat × Int) → Value
  | some (n, a, e) => .tuple #[decV n (decB a) e, .int .i64 0]
  | none => .tuple #[decV false noB 0, .int .i64 40]

theorem dec_last {a : Nat} : (decDigits a).getLast? = some (UInt8.ofNat (48 + a % 10)) := by
  by_cases h : a < 10
  · rw [Lib.decDigits_one h, Nat.mod_eq_of_lt h]; rfl
  · have := congrArg (fun x : ByteArray => x.data.toList) (decB_step h)
    rw [ByteArray.data_append, Array.toList_append, decB_data, decB_data] at this
    rw [← this, oneB]
    simp
theorem lim_dv {l : List UInt8} (h1 : l.length ≤ 400) (h2 : l.all isD = true) (h3 : l ≠ []) : dv l < lim := by
  have := dv_lt l h2
  rw [← lim_iff]
  have h4 : 1 ≤ l.length := by cases l; exact absurd rfl h3; simp
  exact Nat.le_trans (nDigits_le h4 this) h1
theorem rightD_dec (n : Bool) {a : Nat} (ha : a % 10 ≠ 0) (hl : a < lim) (x : Int) : rightD n (decDigits a) x = (decide (nDigits a ≤ 100) && (decide (-100 ≤ x) && decide (x ≤ 100))) := by
  have hn := isNat_dec hl
  by_cases h1 : nDigits a ≤ 100
  · rw [rightD_more hn (by rw [Lib.decDigits_length]; exact h1) (fun e => by
      have := congrArg dv e
      rw [dv_dec] at this
      rw [this] at ha
      exact ha (by decide)), dec_last, show decide (nDigits a ≤ 100) = true from by simpa using h1]
    have : (some (UInt8.ofNat (48 + a % 10)) != some 48) = true := by
      simp only [bne_iff_ne, ne_eq, Option.some.injEq]
      intro h
      have := congrArg UInt8.toNat h
      rw [dig_nat (by omega)] at this
      simp at this
      omega
    rw [this, Bool.and_true, Bool.true_and]
  · rw [rightD_long (by rw [Lib.decDigits_length]; omega), show decide (nDigits a ≤ 100) = false from by simpa using h1]; rfl

theorem makeR_bad {n : Bool} {l : List UInt8} {e : Int} (h : l = [] ∨ 400 < l.length ∨ e < -1000 ∨ 1000 < e ∨ l.all isD = false) : makeR n l e = none := by rw [makeR, if_pos h]
theorem makeR_zero {n : Bool} {l : List UInt8} {e : Int} (h : ¬ (l = [] ∨ 400 < l.length ∨ e < -1000 ∨ 1000 < e ∨ l.all isD = false)) (h0 : dv l = 0) : makeR n l e = some (false, 0, 0) := by rw [makeR, if_neg h, if_pos h0]
theorem makeR_more {n : Bool} {l : List UInt8} {e : Int} {a k : Nat} (h : ¬ (l = [] ∨ 400 < l.length ∨ e < -1000 ∨ 1000 < e ∨ l.all isD = false)) (hm : dv l = a * 10 ^ k) (ha : a % 10 ≠ 0) (hk : k ≤ 400) :
    makeR n l e = if nDigits a ≤ 100 ∧ -100 ≤ e + k ∧ e + k ≤ 100 then some (n, a, e + k) else none := by
  have h0 : dv l ≠ 0 := by
    rw [hm]
    intro h
    rcases Nat.mul_eq_zero.1 h with h | h
    · rw [h] at ha; exact ha rfl
    · exact absurd h (Nat.ne_of_gt (Nat.pow_pos (by omega)))
  rw [makeR, if_neg h, if_neg h0, hm, strp_eq ha (by omega)]

theorem decB_cut {m : Nat} (h : ¬ m < 10) : (decB m).extract 0 ((decB m).size - 1) = decB (m / 10) := by
  refine str_inj ?_
  rw [Lib.extract_data, List.drop_zero, Nat.sub_zero, ← decB_step h, ByteArray.size_append, ByteArray.data_append, Array.toList_append]
  rw [show (decB (m / 10)).size + (oneB (m % 10)).size - 1 = (decB (m / 10)).data.toList.length from by rw [show (oneB (m % 10)).size = 1 from rfl, Lib.size_eq]; omega]
  exact List.take_left
theorem decB_at {m : Nat} : (byteAt (decB m) ((decB m).size - 1)).toNat = 48 + m % 10 := by
  have h := dec_last (a := m)
  rw [List.getLast?_eq_getElem?] at h
  rw [byteAt_list, Lib.size_eq, decB_data, h]
  exact dig_nat (by omega)
theorem decB_pos (m : Nat) : 0 < (decB m).size := by
  rw [decB_len]
  exact Lib.nDigits_pos m
end Go.Proofs.YtifccjchpciicaaGreatDoor
