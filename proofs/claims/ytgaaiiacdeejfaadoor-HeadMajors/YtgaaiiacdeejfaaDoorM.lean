/- Plain mathematics: bytes and their letters, bytes and their digits. -/
import Derived.WalkKit
namespace Go.Proofs.YtgaaiiacdeejfaaDoor

theorem u8_nat (n : Nat) (h : n < 256) : (UInt8.ofNat n).toNat = n := by rw [UInt8.toNat_ofNat']; omega
theorem u8_eq {a : UInt8} {n : Nat} (h : a.toNat = n) : UInt8.ofNat n = a := by subst h; exact UInt8.ofNat_toNat

/-- The letter of a number below 64. -/
def lettN (n : Nat) : Nat := if n < 26 then 65 + n else if n < 52 then 71 + n else if n < 62 then n - 4 else if n = 62 then 45 else 95
def lett (n : Nat) : UInt8 := UInt8.ofNat (lettN n)
/-- A letter's number; 64: it is none. -/
def numb (c : Nat) : Nat := if 65 ≤ c ∧ c ≤ 90 then c - 65 else if 97 ≤ c ∧ c ≤ 122 then c - 71 else if 48 ≤ c ∧ c ≤ 57 then c + 4 else if c = 45 then 62 else if c = 95 then 63 else 64
theorem lettN_lt (n : Nat) (h : n < 64) : lettN n < 128 := by unfold lettN; (repeat' split) <;> omega
theorem numb_lett {n : Nat} (h : n < 64) : numb (lettN n) = n := by
  unfold lettN
  by_cases h1 : n < 26
  · rw [if_pos h1]; unfold numb; rw [if_pos (by omega)]; omega
  by_cases h2 : n < 52
  · rw [if_neg h1, if_pos h2]; unfold numb; rw [if_neg (by omega), if_pos (by omega)]; omega
  by_cases h3 : n < 62
  · rw [if_neg h1, if_neg h2, if_pos h3]; unfold numb; rw [if_neg (by omega), if_neg (by omega), if_pos (by omega)]; omega
  by_cases h4 : n = 62
  · subst h4; rfl
  · have : n = 63 := by omega
    subst this; rfl
theorem lett_numb {c : Nat} (h : numb c < 64) : lettN (numb c) = c := by
  unfold numb at h ⊢
  by_cases h1 : 65 ≤ c ∧ c ≤ 90
  · rw [if_pos h1]; unfold lettN; rw [if_pos (by omega)]; omega
  by_cases h2 : 97 ≤ c ∧ c ≤ 122
  · rw [if_neg h1, if_pos h2]; unfold lettN; rw [if_neg (by omega), if_pos (by omega)]; omega
  by_cases h3 : 48 ≤ c ∧ c ≤ 57
  · rw [if_neg h1, if_neg h2, if_pos h3]; unfold lettN; rw [if_neg (by omega), if_neg (by omega), if_pos (by omega)]; omega
  by_cases h4 : c = 45
  · subst h4; rfl
  by_cases h5 : c = 95
  · subst h5; rfl
  · rw [if_neg h1, if_neg h2, if_neg h3, if_neg h4, if_neg h5] at h; omega
theorem numb_le (c : Nat) : numb c ≤ 64 := by unfold numb; (repeat' split) <;> omega
theorem lett_toNat {n : Nat} (h : n < 64) : (lett n).toNat = lettN n := by rw [lett, u8_nat _ (by have := lettN_lt n h; omega)]
theorem numb_of_lett {n : Nat} (h : n < 64) : numb (lett n).toNat = n := by rw [lett_toNat h, numb_lett h]

/-- The code of bytes. -/
def code : List UInt8 → List UInt8
  | [] => []
  | [a] => [lett (a.toNat / 4), lett (a.toNat % 4 * 16)]
  | [a, b] => [lett (a.toNat / 4), lett (a.toNat % 4 * 16 + b.toNat / 16), lett (b.toNat % 16 * 4)]
  | a :: b :: c :: t => lett (a.toNat / 4) :: lett (a.toNat % 4 * 16 + b.toNat / 16) :: lett (b.toNat % 16 * 4 + c.toNat / 64) :: lett (c.toNat % 64) :: code t

theorem code_len : ∀ s : List UInt8, (code s).length = (4 * s.length + 2) / 3
  | [] => rfl
  | [_] => by simp [code]
  | [_, _] => by simp [code]
  | _ :: _ :: _ :: t => by
    simp only [code, List.length_cons, code_len t]; omega

/-- The bytes of letters, however they stand: what is left over falls away. -/
def raw : List UInt8 → List UInt8
  | a :: b :: c :: d :: t => UInt8.ofNat (numb a.toNat * 4 + numb b.toNat / 16) :: UInt8.ofNat (numb b.toNat % 16 * 16 + numb c.toNat / 4) :: UInt8.ofNat (numb c.toNat % 4 * 64 + numb d.toNat) :: raw t
  | [a, b, c] => [UInt8.ofNat (numb a.toNat * 4 + numb b.toNat / 16), UInt8.ofNat (numb b.toNat % 16 * 16 + numb c.toNat / 4)]
  | [a, b] => [UInt8.ofNat (numb a.toNat * 4 + numb b.toNat / 16)]
  | _ => []

theorem raw_code : ∀ s : List UInt8, raw (code s) = s
  | [] => rfl
  | [a] => by
    have ha := a.toNat_lt
    simp only [code, raw]
    rw [numb_of_lett (by omega), numb_of_lett (by omega), u8_eq (a := a) (by omega)]
  | [a, b] => by
    have ha := a.toNat_lt
    have hb := b.toNat_lt
    simp only [code, raw]
    rw [numb_of_lett (by omega), numb_of_lett (by omega), numb_of_lett (by omega), u8_eq (a := a) (by omega), u8_eq (a := b) (by omega)]
  | a :: b :: c :: t => by
    have ha := a.toNat_lt
    have hb := b.toNat_lt
    have hc := c.toNat_lt
    simp only [code, raw]
    rw [numb_of_lett (by omega), numb_of_lett (by omega), numb_of_lett (by omega), numb_of_lett (by omega), u8_eq (a := a) (by omega), u8_eq (a := b) (by omega), u8_eq (a := c) (by omega), raw_code t]

theorem code_inj {s t : List UInt8} (h : code s = code t) : s = t := by rw [← raw_code s, h, raw_code]
def isLett (c : UInt8) : Bool := decide (numb c.toNat < 64)
theorem isLett_lett {n : Nat} (h : n < 64) : isLett (lett n) = true := by rw [isLett, numb_of_lett h]; simpa using h
theorem code_all : ∀ s : List UInt8, (code s).all isLett = true
  | [] => rfl
  | [a] => by
    have ha := a.toNat_lt
    simp only [code, List.all_cons, List.all_nil, isLett_lett (show a.toNat / 4 < 64 by omega), isLett_lett (show a.toNat % 4 * 16 < 64 by omega), Bool.and_true]
  | [a, b] => by
    have ha := a.toNat_lt
    have hb := b.toNat_lt
    simp only [code, List.all_cons, List.all_nil, isLett_lett (show a.toNat / 4 < 64 by omega), isLett_lett (show a.toNat % 4 * 16 + b.toNat / 16 < 64 by omega), isLett_lett (show b.toNat % 16 * 4 < 64 by omega), Bool.and_true]
  | a :: b :: c :: t => by
    have ha := a.toNat_lt
    have hb := b.toNat_lt
    have hc := c.toNat_lt
    simp only [code, List.all_cons, isLett_lett (show a.toNat / 4 < 64 by omega), isLett_lett (show a.toNat % 4 * 16 + b.toNat / 16 < 64 by omega), isLett_lett (show b.toNat % 16 * 4 + c.toNat / 64 < 64 by omega), isLett_lett (show c.toNat % 64 < 64 by omega), code_all t, Bool.and_true]
theorem raw_len : ∀ t : List UInt8, (raw t).length = 3 * (t.length / 4) + (t.length % 4 - 1)
  | [] => rfl
  | [_] => by simp [raw]
  | [_, _] => by simp [raw]
  | [_, _, _] => by simp [raw]
  | _ :: _ :: _ :: _ :: t => by
    simp only [raw, List.length_cons, raw_len t]; omega

/-- Is it the code of some bytes, of which there are no more than 400? -/
def isCode (t : List UInt8) : Bool := decide (t.length ≤ 534) && (code (raw t) == t)
theorem isCode_iff {t : List UInt8} : isCode t = true ↔ ∃ s, s.length ≤ 400 ∧ code s = t := by
  simp only [isCode, Bool.and_eq_true, decide_eq_true_eq, beq_iff_eq]
  constructor
  · rintro ⟨h1, h2⟩
    refine ⟨raw t, ?_, h2⟩
    have := code_len (raw t)
    rw [h2] at this
    omega
  · rintro ⟨s, h1, rfl⟩
    refine ⟨?_, by rw [raw_code]⟩
    rw [code_len]; omega
theorem isCode_code {s : List UInt8} (h : s.length ≤ 400) : isCode (code s) = true := isCode_iff.2 ⟨s, h, rfl⟩
theorem isCode_raw {t : List UInt8} (h : isCode t = true) : code (raw t) = t ∧ (raw t).length ≤ 400 := by
  obtain ⟨s, h1, rfl⟩ := isCode_iff.1 h
  rw [raw_code]
  exact ⟨rfl, h1⟩

/-- The code of three by three, and of others behind. -/
theorem code_app : ∀ (s t : List UInt8), s.length % 3 = 0 → code (s ++ t) = code s ++ code t
  | [], _, _ => rfl
  | [_], _, h => by simp at h
  | [_, _], _, h => by simp at h
  | a :: b :: c :: s, t, h => by
    simp only [List.cons_append, code]
    rw [code_app s t (by simp only [List.length_cons] at h; omega)]

/-- A digit of sixteen. -/
def hexN (n : Nat) : Nat := if n < 10 then 48 + n else 87 + n
def hexd (n : Nat) : UInt8 := UInt8.ofNat (hexN n)
def unhex (c : Nat) : Nat := if 48 ≤ c ∧ c ≤ 57 then c - 48 else if 97 ≤ c ∧ c ≤ 102 then c - 87 else 16
theorem hexN_lt {n : Nat} (h : n < 16) : hexN n < 128 := by unfold hexN; split <;> omega
theorem hexd_toNat {n : Nat} (h : n < 16) : (hexd n).toNat = hexN n := by rw [hexd, u8_nat _ (by have := hexN_lt h; omega)]
theorem unhex_hex {n : Nat} (h : n < 16) : unhex (hexd n).toNat = n := by
  rw [hexd_toNat h]; unfold hexN unhex; split
  · rw [if_pos (by omega)]; omega
  · rw [if_neg (by omega), if_pos (by omega)]; omega
theorem hex_unhex {c : UInt8} (h : unhex c.toNat < 16) : hexd (unhex c.toNat) = c := by
  unfold hexd
  refine u8_eq ?_
  unfold unhex at h ⊢
  by_cases h1 : 48 ≤ c.toNat ∧ c.toNat ≤ 57
  · rw [if_pos h1]; unfold hexN; rw [if_pos (by omega)]; omega
  by_cases h2 : 97 ≤ c.toNat ∧ c.toNat ≤ 102
  · rw [if_neg h1, if_pos h2]; unfold hexN; rw [if_neg (by omega)]; omega
  · rw [if_neg h1, if_neg h2] at h; omega
def isHex (c : UInt8) : Bool := decide (unhex c.toNat < 16)
/-- The digits of bytes. -/
def pairs : List UInt8 → List UInt8
  | [] => []
  | a :: t => hexd (a.toNat / 16) :: hexd (a.toNat % 16) :: pairs t
def unpair : List UInt8 → List UInt8
  | a :: b :: t => UInt8.ofNat (unhex a.toNat * 16 + unhex b.toNat) :: unpair t
  | _ => []
theorem pairs_len : ∀ s : List UInt8, (pairs s).length = 2 * s.length
  | [] => rfl
  | a :: t => by simp only [pairs, List.length_cons, pairs_len t]; omega
theorem unpair_pairs : ∀ s : List UInt8, unpair (pairs s) = s
  | [] => rfl
  | a :: t => by
    have := a.toNat_lt
    simp only [pairs, unpair]
    rw [unhex_hex (by omega), unhex_hex (by omega), unpair_pairs t, u8_eq (a := a) (by omega)]
theorem pairs_app (s t : List UInt8) : pairs (s ++ t) = pairs s ++ pairs t := by
  induction s with
  | nil => rfl
  | cons a s ih => simp only [List.cons_append, pairs, ih]
theorem pairs_all : ∀ s : List UInt8, (pairs s).all isHex = true
  | [] => rfl
  | a :: t => by
    have := a.toNat_lt
    simp only [pairs, List.all_cons, isHex, unhex_hex (show a.toNat / 16 < 16 by omega), unhex_hex (show a.toNat % 16 < 16 by omega), pairs_all t, Bool.and_true]
    simp; omega
theorem pairs_unpair : ∀ t : List UInt8, t.length % 2 = 0 → t.all isHex = true → pairs (unpair t) = t
  | [], _, _ => rfl
  | [_], h, _ => by simp at h
  | a :: b :: t, h, h2 => by
    simp only [List.all_cons, Bool.and_eq_true, isHex, decide_eq_true_eq] at h2
    obtain ⟨ha, hb, ht⟩ := h2
    have := a.toNat_lt
    simp only [unpair, pairs]
    rw [u8_nat _ (by omega), show (unhex a.toNat * 16 + unhex b.toNat) / 16 = unhex a.toNat from by omega, show (unhex a.toNat * 16 + unhex b.toNat) % 16 = unhex b.toNat from by omega, hex_unhex ha, hex_unhex hb, pairs_unpair t (by simp only [List.length_cons] at h; omega) ht]
theorem unpair_len : ∀ t : List UInt8, (unpair t).length = t.length / 2
  | [] => rfl
  | [_] => by simp [unpair]
  | a :: b :: t => by simp only [unpair, List.length_cons, unpair_len t]; omega
/-- Are they the digits of some bytes, of which there are no more than 400? -/
def isPairs (t : List UInt8) : Bool := decide (t.length ≤ 800) && decide (t.length % 2 = 0) && t.all isHex
theorem isPairs_pairs {s : List UInt8} (h : s.length ≤ 400) : isPairs (pairs s) = true := by
  simp only [isPairs, pairs_all, pairs_len, Bool.and_true, Bool.and_eq_true, decide_eq_true_eq]; omega
end Go.Proofs.YtgaaiiacdeejfaaDoor
