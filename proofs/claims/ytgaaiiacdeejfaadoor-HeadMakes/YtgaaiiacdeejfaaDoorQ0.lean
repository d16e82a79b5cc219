/- Plain mathematics: heads, their bytes, what a text begins with. -/
import Derived.Test.YtgaaiiacdeejfaaDoorBa
namespace Go.Proofs.YtgaaiiacdeejfaaDoor
open Go.RowKit

/-- How many bytes an argument has behind the first one. -/
def hext (a : Nat) : Nat := if a < 24 then 0 else if a < 256 then 1 else if a < 65536 then 2 else if a < 4294967296 then 4 else 8
/-- The info of an argument's shortest head. -/
def hinfo (a : Nat) : Nat := if a < 24 then a else if a < 256 then 24 else if a < 65536 then 25 else if a < 4294967296 then 26 else 27
/-- The last n bytes of a number, the greatest one first. -/
def bigL : Nat → Nat → List UInt8
  | 0, _ => []
  | n + 1, a => UInt8.ofNat (a / 256 ^ n) :: bigL n a
/-- The number of bytes. -/
def valL (l : List UInt8) : Nat := l.foldl (fun a c => a * 256 + c.toNat) 0
/-- A head's bytes. -/
def headL (m a : Nat) : List UInt8 := UInt8.ofNat (32 * m + hinfo a) :: bigL (hext a) a
def headB (m a : Nat) : ByteArray := ⟨(headL m a).toArray⟩
/-- How many bytes an info asks for; none: it makes no head. -/
def nby (k : Nat) : Option Nat := if k < 24 then some 0 else if k = 24 then some 1 else if k = 25 then some 2 else if k = 26 then some 4 else if k = 27 then some 8 else if k = 31 then some 0 else none

theorem bigL_len (n a : Nat) : (bigL n a).length = n := by
  induction n with
  | zero => rfl
  | succ n ih => rw [bigL, List.length_cons, ih]
theorem hext_le (a : Nat) : hext a ≤ 8 := by unfold hext; repeat' split
                                             all_goals omega
theorem hinfo_le (a : Nat) : hinfo a ≤ 27 := by unfold hinfo; repeat' split
                                                all_goals omega
theorem headL_len (m a : Nat) : (headL m a).length = 1 + hext a := by rw [headL, List.length_cons, bigL_len]; omega
theorem headB_size (m a : Nat) : (headB m a).size = 1 + hext a := by rw [← headL_len m a]; rfl
theorem nby_info (a : Nat) : nby (hinfo a) = some (hext a) := by
  unfold nby hinfo hext
  repeat' split
  all_goals first | rfl | omega
theorem nby_le {k n : Nat} (h : nby k = some n) : n ≤ 8 := by
  unfold nby at h
  repeat' split at h
  all_goals first | omega | (injection h; omega) | cases h
theorem val_fold (l : List UInt8) (x : Nat) : l.foldl (fun a c => a * 256 + c.toNat) x = x * 256 ^ l.length + valL l := by
  induction l generalizing x with
  | nil => simp [valL]
  | cons c l ih =>
    have e : valL (c :: l) = c.toNat * 256 ^ l.length + valL l := by rw [valL, List.foldl_cons, ih, Nat.zero_mul, Nat.zero_add]
    rw [List.foldl_cons, ih, e, List.length_cons, Nat.pow_succ]
    have : (x * 256 + c.toNat) * 256 ^ l.length = x * (256 ^ l.length * 256) + c.toNat * 256 ^ l.length := by rw [Nat.add_mul, Nat.mul_assoc, Nat.mul_comm 256]
    rw [this]; omega
theorem val_cons (c : UInt8) (l : List UInt8) : valL (c :: l) = c.toNat * 256 ^ l.length + valL l := by
  rw [valL, List.foldl_cons, val_fold]; simp
theorem val_lt (l : List UInt8) : valL l < 256 ^ l.length := by
  induction l with
  | nil => simp [valL]
  | cons c l ih =>
    rw [val_cons, List.length_cons, Nat.pow_succ]
    have h1 := c.toNat_lt
    have h2 : (c.toNat + 1) * 256 ^ l.length ≤ 256 * 256 ^ l.length := Nat.mul_le_mul_right _ (by omega)
    rw [Nat.add_mul] at h2
    omega
theorem val_big (n a : Nat) : valL (bigL n a) = a % 256 ^ n := by
  induction n with
  | zero => simp [bigL, valL, Nat.mod_one]
  | succ n ih =>
    rw [bigL, val_cons, ih, bigL_len, UInt8.toNat_ofNat']
    have h : a % 256 ^ (n + 1) = a % 256 ^ n + 256 ^ n * (a / 256 ^ n % 256) := by rw [Nat.pow_succ, Nat.mod_mul]
    rw [h, Nat.mul_comm, Nat.add_comm]
theorem big_val (l : List UInt8) : bigL l.length (valL l) = l := by
  induction l with
  | nil => rfl
  | cons c l ih =>
    have key : ∀ n, n ≤ l.length → bigL n (valL (c :: l)) = bigL n (valL l) := by
      intro n
      induction n with
      | zero => intro _; rfl
      | succ n ihn =>
        intro h
        rw [bigL, bigL, ihn (by omega)]
        congr 1
        rw [val_cons]
        have : 256 ^ l.length = 256 ^ n * (256 * 256 ^ (l.length - n - 1)) := by
          rw [← Nat.mul_assoc, ← Nat.pow_succ, ← Nat.pow_add]; congr 1; omega
        rw [this, show c.toNat * (256 ^ n * (256 * 256 ^ (l.length - n - 1))) = 256 ^ n * (256 * (c.toNat * 256 ^ (l.length - n - 1))) by
          rw [Nat.mul_left_comm, Nat.mul_left_comm c.toNat], Nat.mul_add_div (Nat.pow_pos (by decide))]
        apply UInt8.toNat_inj.1
        rw [UInt8.toNat_ofNat', UInt8.toNat_ofNat']
        omega
    rw [List.length_cons, bigL, key _ (Nat.le_refl _), ih, val_cons]
    congr 1
    have h := val_lt l
    rw [Nat.mul_comm, Nat.mul_add_div (Nat.pow_pos (by decide)), Nat.div_eq_of_lt h, Nat.add_zero, UInt8.ofNat_toNat]
end Go.Proofs.YtgaaiiacdeejfaaDoor
