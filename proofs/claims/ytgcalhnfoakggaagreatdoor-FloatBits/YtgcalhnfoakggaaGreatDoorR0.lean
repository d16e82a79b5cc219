/- Plain mathematics: numerals and their numbers. (Declarations of the texts on nat that name no program.) -/
import Derived.Test.YtgcalhnfoakggaaGreatDoorProg
import Derived.WalkKit
import Derived.WalkSpells
import Derived.WalkLawsBesides
import Derived.WalkMore
import Derived.Lib.Hide
import Derived.Lib.ItoaMem
import Derived.Lib.Repeat
import Derived.Lib.Strings
namespace Go.Proofs.YtgcalhnfoakggaaGreatDoor
open Go.RowKit
open Go.Lib

/-- The number at a place, 0 past the end. -/
def lat (L : List Nat) (j : Nat) : Nat := L[j]?.getD 0

/-- The slice value v holds the limbs L in the world W. -/
def Lm (W : World) (v : Value) (L : List Nat) : Prop :=
  (v = .slice none 0 0 ∧ L = []) ∨ ∃ b off cap, v = .slice (some ⟨b, off, none⟩) L.length cap ∧ L.length ≤ cap ∧ b < W.heap.size ∧
    ∀ j, j < L.length → W.cell? ⟨b, off + j, none⟩ = some (.int .u32 (lat L j : Nat))

/-- -1, 0 or 1. -/
def cmpI (a b : Int) : Int := if a < b then -1 else if b < a then 1 else 0

/-- The number whose first k digits, the least one first, are f 0, f 1, .. -/
def vt (f : Nat → Nat) : Nat → Nat
  | 0 => 0
  | k + 1 => vt f k + f k * 1000000000 ^ k

/-- The number of a list of limbs. -/
def val (L : List Nat) : Nat := vt (lat L) L.length

/-- Every limb is below the base. -/
def Bd (L : List Nat) : Prop := ∀ j, lat L j < 1000000000

/-- The last one is not 0. -/
def Nm (L : List Nat) : Prop := L = [] ∨ lat L (L.length - 1) ≠ 0

theorem cmpI_lt {a b : Int} (h : a < b) : cmpI a b = -1 := by simp [cmpI, h]

theorem cmpI_gt {a b : Int} (h : b < a) : cmpI a b = 1 := by rw [cmpI, if_neg (by omega), if_pos h]

theorem cmpI_eq (a : Int) : cmpI a a = 0 := by simp [cmpI]

/-- Just k digits of n. -/
def digs : Nat → Nat → List UInt8
  | 0, _ => []
  | k + 1, n => digs k (n / 10) ++ [UInt8.ofNat (48 + n % 10)]

theorem dec_digs (n : Nat) : decDigits n = digs (nDigits n) n := by
  induction n using Nat.strongRecOn with
  | _ n ih =>
    by_cases h : n < 10
    · rw [nDigits_small h, Go.Lib.decDigits_one h, digs, digs, Nat.mod_eq_of_lt h]; rfl
    · rw [decDigits, dif_neg h, nDigits_big h, digs, ih (n / 10) (by omega)]

theorem nDigits_le {k n : Nat} (hk : 1 ≤ k) (h : n < 10 ^ k) : nDigits n ≤ k := by
  induction k generalizing n with
  | zero => omega
  | succ k ih =>
    by_cases h1 : n < 10
    · rw [nDigits_small h1]; omega
    · rw [nDigits_big h1]
      cases k with
      | zero => simp at h; omega
      | succ k => have := ih (n := n / 10) (by omega) (by rw [Nat.pow_succ] at h; omega); omega

theorem nDigits_le_iff {k n : Nat} (hk : 1 ≤ k) : nDigits n ≤ k ↔ n < 10 ^ k := by
  refine ⟨fun h => ?_, nDigits_le hk⟩
  have h1 := lt_pow_nDigits n
  have h2 : 10 ^ nDigits n ≤ 10 ^ k := Nat.pow_le_pow_right (by omega) h
  omega

/-- The number of the k greatest limbs. -/
def hv (L : List Nat) (k : Nat) : Nat := vt (fun j => lat L (L.length - k + j)) k

/-- A natural ends here. -/
def lim : Nat := 10 ^ 400

theorem lim_iff (n : Nat) : nDigits n ≤ 400 ↔ n < lim := by
  unfold lim
  exact nDigits_le_iff (k := 400) (by omega)

def byteAt (s : ByteArray) (i : Nat) : UInt8 := s.data[i]?.getD 0

/-- Is it a digit? -/
def isD (c : UInt8) : Bool := 48 ≤ c.toNat && c.toNat ≤ 57

/-- Is it a natural? -/
def isNat (l : List UInt8) : Bool := !l.isEmpty && l.length ≤ 400 && (l.head? != some 48 || l == [48]) && l.all isD

/-- The number of digits. -/
def dv (l : List UInt8) : Nat := l.foldl (fun a c => a * 10 + (c.toNat - 48)) 0

theorem dv_snoc (l : List UInt8) (c : UInt8) : dv (l ++ [c]) = dv l * 10 + (c.toNat - 48) := by simp [dv]

theorem byteAt_list (s : ByteArray) (i : Nat) : byteAt s i = s.data.toList[i]?.getD 0 := by simp [byteAt]

/-- What makes read go on to the digits. -/
def Goes (s : ByteArray) : Prop := 0 < s.size ∧ s.size ≤ 400 ∧ ((byteAt s 0).toNat = 48 → s.data.toList = [48])

theorem isNat_iff (s : ByteArray) : isNat s.data.toList = true ↔ Goes s ∧ ∀ t, t < s.size → isD (byteAt s t) = true := by
  have hsz := Lib.size_eq s
  have hall : s.data.toList.all isD = true ↔ ∀ t, t < s.size → isD (byteAt s t) = true := by
    rw [List.all_eq_true]
    constructor
    · intro h t ht
      have : t < s.data.toList.length := by omega
      rw [byteAt_list]
      simp only [List.getElem?_eq_getElem this, Option.getD_some]
      exact h _ (List.getElem_mem _)
    · intro h c hc
      obtain ⟨t, ht, rfl⟩ := List.getElem_of_mem hc
      have := h t (by omega)
      rw [byteAt_list] at this
      simpa only [List.getElem?_eq_getElem ht, Option.getD_some] using this
  rw [isNat, Bool.and_eq_true, hall, Bool.and_eq_true, Bool.and_eq_true, Goes, byteAt_list]
  refine and_congr ?_ Iff.rfl
  cases hl : s.data.toList with
  | nil =>
    rw [hl, List.length_nil] at hsz
    simp only [List.isEmpty_nil, Bool.not_true, Bool.false_eq_true, false_and, hsz, Nat.lt_irrefl]
  | cons c r =>
    rw [hl] at hsz
    have h48 : c.toNat = 48 ↔ c = 48 := by rw [← UInt8.toNat_inj]; rfl
    simp only [List.isEmpty_cons, Bool.not_false, true_and, decide_eq_true_eq, List.head?_cons, List.getElem?_cons_zero, Option.getD_some, h48, Bool.or_eq_true, bne_iff_ne, ne_eq, Option.some.injEq, beq_iff_eq]
    simp only [List.length_cons] at hsz ⊢
    constructor
    · rintro ⟨h1, h2⟩
      exact ⟨by omega, by omega, fun e => h2.resolve_left (fun h => h e)⟩
    · rintro ⟨h0, h1, h2⟩
      refine ⟨by omega, ?_⟩
      by_cases e : c = 48
      · exact .inr (h2 e)
      · exact .inl e

theorem byteAt_eq (s : ByteArray) (i : Nat) (h : i < s.size) : byteAt s i = s[i] := by simp [byteAt, h]; rfl

/-- The limbs of two naturals, in a slice. -/
def Two (a b : Nat) (g : Nat) (w' : World) : Prop := ∃ R1 v1 R2 v2, w'.cell? ⟨g, 0, none⟩ = some v1 ∧ w'.cell? ⟨g, 1, none⟩ = some v2 ∧ g < w'.heap.size ∧
  (Lm w' v1 R1 ∧ Bd R1 ∧ Nm R1 ∧ val R1 = a ∧ R1.length ≤ 45) ∧ (Lm w' v2 R2 ∧ Bd R2 ∧ Nm R2 ∧ val R2 = b ∧ R2.length ≤ 45)

theorem isD_iff (c : UInt8) : isD c = true ↔ 48 ≤ c.toNat ∧ c.toNat ≤ 57 := by
  rw [isD]
  simp

theorem dec_step {n : Nat} (h : ¬ n < 10) : decDigits n = decDigits (n / 10) ++ [UInt8.ofNat (48 + n % 10)] := by
  conv => lhs; rw [decDigits]
  rw [dif_neg h]

theorem dig_nat {d : Nat} (h : d < 10) : (UInt8.ofNat (48 + d)).toNat = 48 + d := by
  rw [UInt8.toNat_ofNat', Nat.mod_eq_of_lt (by simp; omega)]

/-- The number of a numeral. -/
theorem dv_dec (n : Nat) : dv (decDigits n) = n := by
  induction n using Nat.strongRecOn with
  | _ n ih =>
    by_cases h : n < 10
    · rw [decDigits_one h, dv, List.foldl_cons, List.foldl_nil, dig_nat h]; omega
    · rw [dec_step h, dv_snoc, ih (n / 10) (by omega), dig_nat (by omega)]; omega

theorem all_dec (n : Nat) : (decDigits n).all isD = true := by
  induction n using Nat.strongRecOn with
  | _ n ih =>
    by_cases h : n < 10
    · rw [decDigits_one h, List.all_cons, List.all_nil, Bool.and_true, isD_iff, dig_nat h]; omega
    · rw [dec_step h, List.all_append, ih (n / 10) (by omega), List.all_cons, List.all_nil, Bool.and_true, Bool.true_and, isD_iff, dig_nat (by omega)]; omega

theorem dec_ne (n : Nat) : decDigits n ≠ [] := by
  intro e
  have := decDigits_length n
  have := nDigits_pos n
  rw [e, List.length_nil] at *
  omega

theorem head_dec {n : Nat} (h : 0 < n) : ∃ c, (decDigits n).head? = some c ∧ 49 ≤ c.toNat := by
  induction n using Nat.strongRecOn with
  | _ n ih =>
    by_cases h1 : n < 10
    · rw [decDigits_one h1]; exact ⟨_, rfl, by rw [dig_nat h1]; omega⟩
    · obtain ⟨c, hc, h2⟩ := ih (n / 10) (by omega) (by omega)
      refine ⟨c, ?_, h2⟩
      rw [dec_step h1, List.head?_append, hc]; rfl

theorem isNat_dec {n : Nat} (h : n < lim) : isNat (decDigits n) = true := by
  have h1 : (decDigits n).length ≤ 400 := by rw [decDigits_length]; exact (lim_iff n).2 h
  have h2 : ((decDigits n).head? != some 48 || decDigits n == [48]) = true := by
    by_cases h0 : n = 0
    · subst h0; rw [decDigits_one (by omega)]; rfl
    · obtain ⟨c, hc, h2⟩ := head_dec (n := n) (by omega)
      rw [hc]
      have : c ≠ 48 := by rintro rfl; simp at h2
      simp [this]
  have h3 : (decDigits n).isEmpty = false := by
    cases e : decDigits n with
    | nil => exact absurd e (dec_ne n)
    | cons => rfl
  rw [isNat, h3, all_dec, h2]
  simp [h1]

/-- Digits of just that length. -/
theorem digs_dv (l : List UInt8) (h : l.all isD = true) : digs l.length (dv l) = l := by
  induction hn : l.length generalizing l with
  | zero => rw [List.eq_nil_of_length_eq_zero hn]; rfl
  | succ k ih =>
    obtain ⟨m, c, rfl⟩ : ∃ m c, l = m ++ [c] := ⟨l.dropLast, l.getLast (by intro e; subst e; simp at hn), (List.dropLast_concat_getLast _).symm⟩
    rw [List.all_append] at h
    simp only [List.all_cons, List.all_nil, Bool.and_true, Bool.and_eq_true] at h
    obtain ⟨h1, h2⟩ := h
    rw [isD_iff] at h2
    rw [List.length_append, List.length_singleton] at hn
    have e1 : (dv m * 10 + (c.toNat - 48)) / 10 = dv m := by omega
    have e2 : (dv m * 10 + (c.toNat - 48)) % 10 = c.toNat - 48 := by omega
    rw [dv_snoc, digs, e1, e2, ih m h1 (by omega), show 48 + (c.toNat - 48) = c.toNat from by omega]
    simp

theorem dv_lt (l : List UInt8) (h : l.all isD = true) : dv l < 10 ^ l.length := by
  induction hn : l.length generalizing l with
  | zero => rw [List.eq_nil_of_length_eq_zero hn]; simp [dv]
  | succ k ih =>
    obtain ⟨m, c, rfl⟩ : ∃ m c, l = m ++ [c] := ⟨l.dropLast, l.getLast (by intro e; subst e; simp at hn), (List.dropLast_concat_getLast _).symm⟩
    rw [List.all_append] at h
    simp only [List.all_cons, List.all_nil, Bool.and_true, Bool.and_eq_true] at h
    obtain ⟨h1, h2⟩ := h
    rw [isD_iff] at h2
    rw [List.length_append, List.length_singleton] at hn
    have := ih m h1 (by omega)
    rw [dv_snoc, Nat.pow_succ]
    omega

theorem dv_ge (c : UInt8) (l : List UInt8) (h : 49 ≤ c.toNat) : 10 ^ l.length ≤ dv (c :: l) := by
  induction hn : l.length generalizing l with
  | zero => rw [List.eq_nil_of_length_eq_zero hn]; simp [dv]; omega
  | succ k ih =>
    obtain ⟨m, d, rfl⟩ : ∃ m c, l = m ++ [c] := ⟨l.dropLast, l.getLast (by intro e; subst e; simp at hn), (List.dropLast_concat_getLast _).symm⟩
    rw [List.length_append, List.length_singleton] at hn
    have := ih m (by omega)
    rw [← List.cons_append, dv_snoc, Nat.pow_succ]
    omega

theorem isNat_parts {l : List UInt8} (h : isNat l = true) : l ≠ [] ∧ l.length ≤ 400 ∧ (l.head? ≠ some 48 ∨ l = [48]) ∧ l.all isD = true := by
  rw [isNat] at h
  simp only [Bool.and_eq_true, Bool.not_eq_true', decide_eq_true_eq, Bool.or_eq_true, bne_iff_ne, ne_eq, beq_iff_eq] at h
  obtain ⟨⟨⟨h1, h2⟩, h3⟩, h4⟩ := h
  exact ⟨by intro e; subst e; simp at h1, h2, h3, h4⟩
end Go.Proofs.YtgcalhnfoakggaaGreatDoor
