/- Plain facts on decimal digits: no program. -/
import Derived.Lib.ItoaMem
import Derived.Lib.Repeat
import Derived.Test.YtifccjchpciicaaGreatDoorMath
namespace Go.Proofs.YtifccjchpciicaaGreatDoor
open Go.Lib (decDigits nDigits nDigits_small nDigits_big nDigits_pos lt_pow_nDigits decDigits_length repeatL)

theorem digs_length (k n : Nat) : (digs k n).length = k := by
  induction k generalizing n with
  | zero => rfl
  | succ k ih => simp [digs, ih]

theorem digs_add (k m n : Nat) : digs (k + m) n = digs k (n / 10 ^ m) ++ digs m n := by
  induction m generalizing n with
  | zero => simp [digs]
  | succ m ih =>
    rw [← Nat.add_assoc, digs, ih, digs, Nat.pow_succ, Nat.mul_comm (10 ^ m) 10, ← Nat.div_div_eq_div_mul, List.append_assoc]

theorem digs_mod (m n : Nat) : digs m (n % 10 ^ m) = digs m n := by
  induction m generalizing n with
  | zero => rfl
  | succ m ih =>
    rw [digs, digs]
    have h1 : n % 10 ^ (m + 1) / 10 = n / 10 % 10 ^ m := by rw [Nat.pow_succ, Nat.mul_comm, Nat.mod_mul_right_div_self]
    have h2 : n % 10 ^ (m + 1) % 10 = n % 10 := by rw [Nat.pow_succ, Nat.mul_comm]; exact Nat.mod_mul_right_mod _ _ _
    rw [h1, h2, ih]

theorem digs_zero (k : Nat) : digs k 0 = List.replicate k 48 := by
  induction k with
  | zero => rfl
  | succ k ih => rw [digs, Nat.zero_div, ih]; simp [List.replicate_succ']

theorem nDigits_add {a b m : Nat} (ha : 0 < a) (hb : b < 10 ^ m) : nDigits (a * 10 ^ m + b) = nDigits a + m := by
  induction m generalizing b with
  | zero => simp at hb; subst hb; simp
  | succ m ih =>
    have hp : 0 < 10 ^ m := Nat.pow_pos (by omega)
    have h1 : (a * 10 ^ (m + 1) + b) / 10 = a * 10 ^ m + b / 10 := by rw [Nat.pow_succ, ← Nat.mul_assoc]; omega
    have h2 : ¬ a * 10 ^ (m + 1) + b < 10 := by
      have : 1 * 10 ^ m ≤ a * 10 ^ m := Nat.mul_le_mul_right _ ha
      rw [Nat.pow_succ, ← Nat.mul_assoc]; omega
    rw [nDigits_big h2, h1, ih (by rw [Nat.pow_succ] at hb; omega), Nat.add_assoc]

theorem dec_add {a b m : Nat} (ha : 0 < a) (hb : b < 10 ^ m) : decDigits (a * 10 ^ m + b) = decDigits a ++ digs m b := by
  have hp : 0 < 10 ^ m := Nat.pow_pos (by omega)
  rw [dec_digs, nDigits_add ha hb, digs_add, dec_digs a]
  congr 1
  · rw [Nat.mul_comm, Nat.mul_add_div hp, Nat.div_eq_of_lt hb, Nat.add_zero]
  · rw [← digs_mod m (a * 10 ^ m + b), Nat.mul_comm, Nat.mul_add_mod, Nat.mod_eq_of_lt hb]

theorem pad_digs {k n : Nat} (hk : 1 ≤ k) (h : n < 10 ^ k) : repeatL [48] (k - (decDigits n).length) ++ decDigits n = digs k n := by
  have h1 := nDigits_le hk h
  rw [decDigits_length, show digs k n = digs (k - nDigits n + nDigits n) n from by rw [Nat.sub_add_cancel h1], digs_add, Nat.div_eq_of_lt (lt_pow_nDigits n), digs_zero, ← dec_digs]
  congr 1
  have := Go.Lib.repeatL_replicate 48 1 (k - nDigits n)
  simpa using this

/-- What tell writes of one limb. -/
def txt1 (top : Nat) (x : Nat × Nat) : List UInt8 := if x.1 < top then repeatL [48] (9 - (decDigits x.2).length) ++ decDigits x.2 else decDigits x.2
def txt (top : Nat) (l : List (Nat × Nat)) : List UInt8 := (l.map (txt1 top)).flatten
theorem txt_snoc (top : Nat) (l : List (Nat × Nat)) (x : Nat × Nat) : txt top (l ++ [x]) = txt top l ++ txt1 top x := by simp [txt]

theorem txt1_le {top : Nat} {x : Nat × Nat} (h : x.2 < 1000000000) : (txt1 top x).length ≤ 9 := by
  have h1 : nDigits x.2 ≤ 9 := nDigits_le (by omega) h
  rw [txt1]
  split
  · rw [pad_digs (k := 9) (by omega) h, digs_length]; omega
  · rw [decDigits_length]; exact h1

theorem vt_shift (f : Nat → Nat) (k : Nat) : vt f (k + 1) = f 0 + 1000000000 * vt (fun j => f (j + 1)) k := by
  induction k with
  | zero => simp [vt]
  | succ k ih =>
    rw [vt, ih, show vt (fun j => f (j + 1)) (k + 1) = vt (fun j => f (j + 1)) k + f (k + 1) * 1000000000 ^ k from rfl, Nat.pow_succ, Nat.mul_add, Nat.add_assoc]
    congr 2
    rw [← Nat.mul_assoc, Nat.mul_comm]

theorem hv_succ {L : List Nat} {k : Nat} (h : k < L.length) : hv L (k + 1) = hv L k * 1000000000 + lat L (L.length - 1 - k) := by
  rw [hv, vt_shift, hv, Nat.add_zero, show L.length - (k + 1) = L.length - 1 - k from by omega, Nat.mul_comm, Nat.add_comm]
  congr 2
  apply vt_congr
  intro j _
  congr 1
  omega
theorem hv_pos {L : List Nat} (nm : Nm L) {k : Nat} (h1 : 1 ≤ k) (h : k ≤ L.length) : 0 < hv L k := by
  induction k with
  | zero => omega
  | succ k ih =>
    rw [hv_succ h]
    cases k with
    | zero =>
      have : lat L (L.length - 1) ≠ 0 := by rcases nm with e | e; (subst e; simp at h); exact e
      simp only [Nat.sub_zero]
      omega
    | succ k => have := ih (by omega) (by omega); omega

theorem txt_back {L : List Nat} (bd : Bd L) (nm : Nm L) {k : Nat} (h1 : 1 ≤ k) (h : k ≤ L.length) : txt (L.length - 1) (backP L k) = decDigits (hv L k) := by
  induction k with
  | zero => omega
  | succ k ih =>
    rw [backP_succ, txt_snoc, hv_succ h]
    cases k with
    | zero => simp [backP, txt, txt1, hv, vt]
    | succ k =>
      rw [ih (by omega) (by omega), txt1, if_pos (by simp only; omega), pad_digs (k := 9) (by omega) (bd _)]
      exact (dec_add (m := 9) (hv_pos nm (by omega) (by omega)) (bd _)).symm
theorem hv_all (L : List Nat) : hv L L.length = val L := by simp [hv, val]

end Go.Proofs.YtifccjchpciicaaGreatDoor
