/- Plain mathematics: numerals and their numbers. (Declarations of the texts on nat that name no program.) The walks of the document's own naturals: Right, Trim, Of, To. Decimals, and the walks of the document's own Right, digits, Num, zeros. The walk of the document's own Make. The walk of the document's own Make: its ways. The walks of the document's own Num and Format. The walks of the document's own OfInt and ToInt. Plain mathematics: what is written, and what it is read as. Plain mathematics: plain writings are read as what they are of. Plain mathematics: what is made is right; whole numbers; however a number is written. The walk of the document's own Parse. What the document's own functions tell, by parts. -/
import Derived.Test.YtppapkpceejnkaaGreatDoorProg
import Derived.WalkKit
import Derived.WalkSpells
import Derived.WalkLawsBesides
import Derived.WalkMore
import Derived.Lib.Hide
import Derived.Lib.ItoaMem
import Derived.Lib.Repeat
import Derived.Lib.Strings
import Derived.Lib.OwnBridge
import Derived.Lib.SmallJoins
import Derived.Maps.AppendAt
import Derived.Deep.LoopGhost
import Derived.Deep.Cut
import Derived.Deep.CutRange
import Derived.Deep.DeepCutAuto
import Derived.Deep.QuietTactic
import Derived.BigQuiet
import Derived.StillTail
import Derived.StillTailTactics
import Derived.Shelf.RegionOpenPlain
import Derived.Deep.RegionWith
namespace Go.Proofs.YtppapkpceejnkaaGreatDoor
open Go.RowKit
open Go.Lib

/-- The number at a place, 0 past the end. -/
def lat (L : List Nat) (j : Nat) : Nat := L[j]?.getD 0

/-- The slice value v holds the limbs L in the world W. -/
def Lm (W : World) (v : Value) (L : List Nat) : Prop :=
  (v = .slice none 0 0 ∧ L = []) ∨ ∃ b off cap, v = .slice (some ⟨b, off, none⟩) L.length cap ∧ L.length ≤ cap ∧ b < W.heap.size ∧
    ∀ j, j < L.length → W.cell? ⟨b, off + j, none⟩ = some (.int .u32 (lat L j : Nat))

/-- The number whose first k digits, the least one first, are f 0, f 1, .. -/
def vt (f : Nat → Nat) : Nat → Nat
  | 0 => 0
  | k + 1 => vt f k + f k * 1000000000 ^ k

/-- The number of a list of limbs. -/
def val (L : List Nat) : Nat := vt (lat L) L.length

/-- Every limb is below the base. -/
def Bd (L : List Nat) : Prop := ∀ j, lat L j < 1000000000

/-- The last one is not 0. -/
def Nm (L : List Nat) : Prop := L = [] ∨ lat L (L.length - 1) ≠ 0

/-- Just k digits of n. -/
def digs : Nat → Nat → List UInt8
  | 0, _ => []
  | k + 1, n => digs k (n / 10) ++ [UInt8.ofNat (48 + n % 10)]

theorem dec_digs (n : Nat) : decDigits n = digs (nDigits n) n := by
  induction n using Nat.strongRecOn with
  | _ n ih =>
    by_cases h : n < 10
    · rw [nDigits_small h, Go.Lib.decDigits_one h, digs, digs, Nat.mod_eq_of_lt h]; rfl
    · rw [decDigits, dif_neg h, nDigits_big h, digs, ih (n / 10) (by omega)]

theorem nDigits_le {k n : Nat} (hk : 1 ≤ k) (h : n < 10 ^ k) : nDigits n ≤ k := by
  induction k generalizing n with
  | zero => omega
  | succ k ih =>
    by_cases h1 : n < 10
    · rw [nDigits_small h1]; omega
    · rw [nDigits_big h1]
      cases k with
      | zero => simp at h; omega
      | succ k => have := ih (n := n / 10) (by omega) (by rw [Nat.pow_succ] at h; omega); omega

theorem nDigits_le_iff {k n : Nat} (hk : 1 ≤ k) : nDigits n ≤ k ↔ n < 10 ^ k := by
  refine ⟨fun h => ?_, nDigits_le hk⟩
  have h1 := lt_pow_nDigits n
  have h2 : 10 ^ nDigits n ≤ 10 ^ k := Nat.pow_le_pow_right (by omega) h
  omega

/-- The number of the k greatest limbs. -/
def hv (L : List Nat) (k : Nat) : Nat := vt (fun j => lat L (L.length - k + j)) k

/-- A natural ends here. -/
def lim : Nat := 10 ^ 400

theorem lim_iff (n : Nat) : nDigits n ≤ 400 ↔ n < lim := by
  unfold lim
  exact nDigits_le_iff (k := 400) (by omega)

def byteAt (s : ByteArray) (i : Nat) : UInt8 := s.data[i]?.getD 0

/-- Is it a digit? -/
def isD (c : UInt8) : Bool := 48 ≤ c.toNat && c.toNat ≤ 57

/-- Is it a natural? -/
def isNat (l : List UInt8) : Bool := !l.isEmpty && l.length ≤ 400 && (l.head? != some 48 || l == [48]) && l.all isD

/-- The number of digits. -/
def dv (l : List UInt8) : Nat := l.foldl (fun a c => a * 10 + (c.toNat - 48)) 0

theorem dv_snoc (l : List UInt8) (c : UInt8) : dv (l ++ [c]) = dv l * 10 + (c.toNat - 48) := by simp [dv]

theorem byteAt_list (s : ByteArray) (i : Nat) : byteAt s i = s.data.toList[i]?.getD 0 := by simp [byteAt]

/-- What makes read go on to the digits. -/
def Goes (s : ByteArray) : Prop := 0 < s.size ∧ s.size ≤ 400 ∧ ((byteAt s 0).toNat = 48 → s.data.toList = [48])

theorem isNat_iff (s : ByteArray) : isNat s.data.toList = true ↔ Goes s ∧ ∀ t, t < s.size → isD (byteAt s t) = true := by
  have hsz := Lib.size_eq s
  have hall : s.data.toList.all isD = true ↔ ∀ t, t < s.size → isD (byteAt s t) = true := by
    rw [List.all_eq_true]
    constructor
    · intro h t ht
      have : t < s.data.toList.length := by omega
      rw [byteAt_list]
      simp only [List.getElem?_eq_getElem this, Option.getD_some]
      exact h _ (List.getElem_mem _)
    · intro h c hc
      obtain ⟨t, ht, rfl⟩ := List.getElem_of_mem hc
      have := h t (by omega)
      rw [byteAt_list] at this
      simpa only [List.getElem?_eq_getElem ht, Option.getD_some] using this
  rw [isNat, Bool.and_eq_true, hall, Bool.and_eq_true, Bool.and_eq_true, Goes, byteAt_list]
  refine and_congr ?_ Iff.rfl
  cases hl : s.data.toList with
  | nil =>
    rw [hl, List.length_nil] at hsz
    simp only [List.isEmpty_nil, Bool.not_true, Bool.false_eq_true, false_and, hsz, Nat.lt_irrefl]
  | cons c r =>
    rw [hl] at hsz
    have h48 : c.toNat = 48 ↔ c = 48 := by rw [← UInt8.toNat_inj]; rfl
    simp only [List.isEmpty_cons, Bool.not_false, true_and, decide_eq_true_eq, List.head?_cons, List.getElem?_cons_zero, Option.getD_some, h48, Bool.or_eq_true, bne_iff_ne, ne_eq, Option.some.injEq, beq_iff_eq]
    simp only [List.length_cons] at hsz ⊢
    constructor
    · rintro ⟨h1, h2⟩
      exact ⟨by omega, by omega, fun e => h2.resolve_left (fun h => h e)⟩
    · rintro ⟨h0, h1, h2⟩
      refine ⟨by omega, ?_⟩
      by_cases e : c = 48
      · exact .inr (h2 e)
      · exact .inl e

theorem byteAt_eq (s : ByteArray) (i : Nat) (h : i < s.size) : byteAt s i = s[i] := by simp [byteAt, h]; rfl

/-- The limbs of two naturals, in a slice. -/
def Two (a b : Nat) (g : Nat) (w' : World) : Prop := ∃ R1 v1 R2 v2, w'.cell? ⟨g, 0, none⟩ = some v1 ∧ w'.cell? ⟨g, 1, none⟩ = some v2 ∧ g < w'.heap.size ∧
  (Lm w' v1 R1 ∧ Bd R1 ∧ Nm R1 ∧ val R1 = a ∧ R1.length ≤ 45) ∧ (Lm w' v2 R2 ∧ Bd R2 ∧ Nm R2 ∧ val R2 = b ∧ R2.length ≤ 45)

theorem isD_iff (c : UInt8) : isD c = true ↔ 48 ≤ c.toNat ∧ c.toNat ≤ 57 := by
  rw [isD]
  simp

theorem dec_step {n : Nat} (h : ¬ n < 10) : decDigits n = decDigits (n / 10) ++ [UInt8.ofNat (48 + n % 10)] := by
  conv => lhs; rw [decDigits]
  rw [dif_neg h]

theorem dig_nat {d : Nat} (h : d < 10) : (UInt8.ofNat (48 + d)).toNat = 48 + d := by
  rw [UInt8.toNat_ofNat', Nat.mod_eq_of_lt (by simp; omega)]

/-- The number of a numeral. -/
theorem dv_dec (n : Nat) : dv (decDigits n) = n := by
  induction n using Nat.strongRecOn with
  | _ n ih =>
    by_cases h : n < 10
    · rw [decDigits_one h, dv, List.foldl_cons, List.foldl_nil, dig_nat h]; omega
    · rw [dec_step h, dv_snoc, ih (n / 10) (by omega), dig_nat (by omega)]; omega

theorem all_dec (n : Nat) : (decDigits n).all isD = true := by
  induction n using Nat.strongRecOn with
  | _ n ih =>
    by_cases h : n < 10
    · rw [decDigits_one h, List.all_cons, List.all_nil, Bool.and_true, isD_iff, dig_nat h]; omega
    · rw [dec_step h, List.all_append, ih (n / 10) (by omega), List.all_cons, List.all_nil, Bool.and_true, Bool.true_and, isD_iff, dig_nat (by omega)]; omega

theorem dec_ne (n : Nat) : decDigits n ≠ [] := by
  intro e
  have := decDigits_length n
  have := nDigits_pos n
  rw [e, List.length_nil] at *
  omega

theorem head_dec {n : Nat} (h : 0 < n) : ∃ c, (decDigits n).head? = some c ∧ 49 ≤ c.toNat := by
  induction n using Nat.strongRecOn with
  | _ n ih =>
    by_cases h1 : n < 10
    · rw [decDigits_one h1]; exact ⟨_, rfl, by rw [dig_nat h1]; omega⟩
    · obtain ⟨c, hc, h2⟩ := ih (n / 10) (by omega) (by omega)
      refine ⟨c, ?_, h2⟩
      rw [dec_step h1, List.head?_append, hc]; rfl

theorem isNat_dec {n : Nat} (h : n < lim) : isNat (decDigits n) = true := by
  have h1 : (decDigits n).length ≤ 400 := by rw [decDigits_length]; exact (lim_iff n).2 h
  have h2 : ((decDigits n).head? != some 48 || decDigits n == [48]) = true := by
    by_cases h0 : n = 0
    · subst h0; rw [decDigits_one (by omega)]; rfl
    · obtain ⟨c, hc, h2⟩ := head_dec (n := n) (by omega)
      rw [hc]
      have : c ≠ 48 := by rintro rfl; simp at h2
      simp [this]
  have h3 : (decDigits n).isEmpty = false := by
    cases e : decDigits n with
    | nil => exact absurd e (dec_ne n)
    | cons => rfl
  rw [isNat, h3, all_dec, h2]
  simp [h1]

/-- Digits of just that length. -/
theorem digs_dv (l : List UInt8) (h : l.all isD = true) : digs l.length (dv l) = l := by
  induction hn : l.length generalizing l with
  | zero => rw [List.eq_nil_of_length_eq_zero hn]; rfl
  | succ k ih =>
    obtain ⟨m, c, rfl⟩ : ∃ m c, l = m ++ [c] := ⟨l.dropLast, l.getLast (by intro e; subst e; simp at hn), (List.dropLast_concat_getLast _).symm⟩
    rw [List.all_append] at h
    simp only [List.all_cons, List.all_nil, Bool.and_true, Bool.and_eq_true] at h
    obtain ⟨h1, h2⟩ := h
    rw [isD_iff] at h2
    rw [List.length_append, List.length_singleton] at hn
    have e1 : (dv m * 10 + (c.toNat - 48)) / 10 = dv m := by omega
    have e2 : (dv m * 10 + (c.toNat - 48)) % 10 = c.toNat - 48 := by omega
    rw [dv_snoc, digs, e1, e2, ih m h1 (by omega), show 48 + (c.toNat - 48) = c.toNat from by omega]
    simp

theorem dv_lt (l : List UInt8) (h : l.all isD = true) : dv l < 10 ^ l.length := by
  induction hn : l.length generalizing l with
  | zero => rw [List.eq_nil_of_length_eq_zero hn]; simp [dv]
  | succ k ih =>
    obtain ⟨m, c, rfl⟩ : ∃ m c, l = m ++ [c] := ⟨l.dropLast, l.getLast (by intro e; subst e; simp at hn), (List.dropLast_concat_getLast _).symm⟩
    rw [List.all_append] at h
    simp only [List.all_cons, List.all_nil, Bool.and_true, Bool.and_eq_true] at h
    obtain ⟨h1, h2⟩ := h
    rw [isD_iff] at h2
    rw [List.length_append, List.length_singleton] at hn
    have := ih m h1 (by omega)
    rw [dv_snoc, Nat.pow_succ]
    omega

theorem dv_ge (c : UInt8) (l : List UInt8) (h : 49 ≤ c.toNat) : 10 ^ l.length ≤ dv (c :: l) := by
  induction hn : l.length generalizing l with
  | zero => rw [List.eq_nil_of_length_eq_zero hn]; simp [dv]; omega
  | succ k ih =>
    obtain ⟨m, d, rfl⟩ : ∃ m c, l = m ++ [c] := ⟨l.dropLast, l.getLast (by intro e; subst e; simp at hn), (List.dropLast_concat_getLast _).symm⟩
    rw [List.length_append, List.length_singleton] at hn
    have := ih m (by omega)
    rw [← List.cons_append, dv_snoc, Nat.pow_succ]
    omega

theorem isNat_parts {l : List UInt8} (h : isNat l = true) : l ≠ [] ∧ l.length ≤ 400 ∧ (l.head? ≠ some 48 ∨ l = [48]) ∧ l.all isD = true := by
  rw [isNat] at h
  simp only [Bool.and_eq_true, Bool.not_eq_true', decide_eq_true_eq, Bool.or_eq_true, bne_iff_ne, ne_eq, beq_iff_eq] at h
  obtain ⟨⟨⟨h1, h2⟩, h3⟩, h4⟩ := h
  exact ⟨by intro e; subst e; simp at h1, h2, h3, h4⟩
end Go.Proofs.YtppapkpceejnkaaGreatDoor

namespace Go.Proofs.YtppapkpceejnkaaGreatDoor
open Go.RowKit
open Go.Lib (decDigits nDigits decDigits_length decDigits_one nDigits_small lt_pow_nDigits)

theorem str_inj {a b : ByteArray} (h : a.data.toList = b.data.toList) : a = b := ByteArray.ext (Array.toList_inj.1 h)

def decB (n : Nat) : ByteArray := ⟨(decDigits n).toArray⟩

theorem decB_data (n : Nat) : (decB n).data.toList = decDigits n := by simp [decB]

/-- Digits without a nought ahead are their number's numeral, however many. -/
theorem dec_canon {l : List UInt8} (h1 : l ≠ []) (h3 : l.head? ≠ some 48 ∨ l.length = 1) (h4 : l.all isD = true) : decDigits (dv l) = l := by
  have hl : nDigits (dv l) = l.length := by
    cases l with
    | nil => exact absurd rfl h1
    | cons c m =>
      have h5 := (List.all_eq_true.1 h4) c (by simp)
      rw [isD_iff] at h5
      rcases h3 with h3 | h3
      · have hc : 49 ≤ c.toNat := by
          have : c.toNat ≠ 48 := by
            intro e
            apply h3
            have : c = 48 := UInt8.toNat.inj e
            rw [this]; rfl
          omega
        have h6 := dv_ge c m hc
        have h7 := nDigits_le (k := m.length + 1) (by omega) (dv_lt (c :: m) h4)
        have h8 := lt_pow_nDigits (dv (c :: m))
        have h9 : m.length < nDigits (dv (c :: m)) := by
          rcases Nat.lt_or_ge m.length (nDigits (dv (c :: m))) with h | h
          · exact h
          · have := Nat.pow_le_pow_right (show 0 < 10 by omega) h
            omega
        rw [List.length_cons]; omega
      · have : m = [] := List.eq_nil_of_length_eq_zero (by simpa using h3)
        subst this
        exact nDigits_small (by simp [dv]; omega)
  rw [dec_digs, hl, digs_dv l h4]

theorem dv_zero_cons (l : List UInt8) : dv (48 :: l) = dv l := by simp [dv]

theorem drop_one (s : ByteArray) : (s.extract 1 s.size).data.toList = s.data.toList.drop 1 := by
  have h : s.size = s.data.toList.length := Lib.size_eq s
  rw [ByteArray.data_extract, Array.toList_extract, List.extract_eq_take_drop, List.take_of_length_le (by rw [List.length_drop]; omega)]

/-- s: digits, one at least. -/
def Digs (s : ByteArray) : Prop := s.data.toList ≠ [] ∧ s.data.toList.all isD = true

def oneB (n : Nat) : ByteArray := ⟨#[UInt8.ofNat (48 + n)]⟩

theorem nat_digs {s : ByteArray} (h : isNat s.data.toList = true) : Digs s ∧ s.size ≤ 400 := by
  obtain ⟨h1, h2, _, h4⟩ := isNat_parts h
  exact ⟨⟨h1, h4⟩, by rw [Lib.size_eq]; exact h2⟩

theorem decB_step {n : Nat} (h : ¬ n < 10) : decB (n / 10) ++ oneB (n % 10) = decB n := by
  refine str_inj ?_
  rw [ByteArray.data_append, Array.toList_append, decB_data, decB_data, dec_step h]
  simp [oneB]

theorem decB_size {n : Nat} (h : n < 18446744073709551616) : (decB n).size ≤ 20 := by
  rw [Lib.size_eq, decB_data, Lib.decDigits_length]
  exact nDigits_le (by omega) (by omega)

end Go.Proofs.YtppapkpceejnkaaGreatDoor

namespace Go.Proofs.YtppapkpceejnkaaGreatDoor
open Go.RowKit
open Go.Lib (decDigits nDigits)

/-- No bytes. -/
def noB : ByteArray := ⟨#[]⟩
/-- Is a decimal right? -/
def rightD (n : Bool) (l : List UInt8) (e : Int) : Bool :=
  isNat l && decide (l.length ≤ 100) && (if l = [48] then decide (e = 0) && !n else decide (-100 ≤ e) && decide (e ≤ 100) && (l.getLast? != some 48))

theorem rightD_nat {n : Bool} {l : List UInt8} {e : Int} (h : isNat l = false) : rightD n l e = false := by rw [rightD, h]; rfl
theorem rightD_long {n : Bool} {l : List UInt8} {e : Int} (h : 100 < l.length) : rightD n l e = false := by
  rw [rightD, show decide (l.length ≤ 100) = false from by simp; omega]; simp
theorem rightD_zero {n : Bool} {e : Int} : rightD n [48] e = (decide (e = 0) && !n) := by
  rw [rightD, show isNat [48] = true from by decide]; simp
theorem rightD_more {n : Bool} {l : List UInt8} {e : Int} (h1 : isNat l = true) (h2 : l.length ≤ 100) (h3 : l ≠ [48]) : rightD n l e = (decide (-100 ≤ e) && decide (e ≤ 100) && (l.getLast? != some 48)) := by
  rw [rightD, h1, show decide (l.length ≤ 100) = true from by simp; omega, if_neg h3]; simp
/-- So many zeros. -/
def zerB (n : Nat) : ByteArray := ⟨(List.replicate n 48).toArray⟩
theorem zerB_data (n : Nat) : (zerB n).data.toList = List.replicate n 48 := by simp [zerB]
theorem zerB_size (n : Nat) : (zerB n).size = n := by rw [Lib.size_eq, zerB_data]; simp
end Go.Proofs.YtppapkpceejnkaaGreatDoor

namespace Go.Proofs.YtppapkpceejnkaaGreatDoor
open Go.RowKit
open Go.Lib (decDigits nDigits)

/-- A number without the zeros at its end, and how many they were. -/
def strp : Nat → Nat → Nat × Nat
  | 0, m => (m, 0)
  | f + 1, m => if m % 10 = 0 then ((strp f (m / 10)).1, (strp f (m / 10)).2 + 1) else (m, 0)
theorem strp_eq {a k : Nat} (ha : a % 10 ≠ 0) : ∀ {f : Nat}, k < f → strp f (a * 10 ^ k) = (a, k) := by
  induction k with
  | zero =>
    intro f hf
    obtain ⟨f, rfl⟩ : ∃ g, f = g + 1 := ⟨f - 1, by omega⟩
    rw [Nat.pow_zero, Nat.mul_one, strp, if_neg ha]
  | succ k ih =>
    intro f hf
    obtain ⟨f, rfl⟩ : ∃ g, f = g + 1 := ⟨f - 1, by omega⟩
    have e1 : a * 10 ^ (k + 1) / 10 = a * 10 ^ k := by rw [Nat.pow_succ, ← Nat.mul_assoc, Nat.mul_div_cancel _ (by omega)]
    have e2 : a * 10 ^ (k + 1) % 10 = 0 := by rw [Nat.pow_succ, ← Nat.mul_assoc, Nat.mul_mod_left]
    rw [strp, if_pos e2, e1, ih (by omega)]

/-- What is made of a sign, digits and an exponent. -/
def makeR (n : Bool) (l : List UInt8) (e : Int) : Option (Bool × Nat × Int) :=
  if l = [] ∨ 400 < l.length ∨ e < -1000 ∨ 1000 < e ∨ l.all isD = false then none
  else if dv l = 0 then some (false, 0, 0)
  else if nDigits (strp 401 (dv l)).1 ≤ 100 ∧ -100 ≤ e + (strp 401 (dv l)).2 ∧ e + (strp 401 (dv l)).2 ≤ 100 then some (n, (strp 401 (dv l)).1, e + (strp 401 (dv l)).2) else none
theorem dec_last {a : Nat} : (decDigits a).getLast? = some (UInt8.ofNat (48 + a % 10)) := by
  by_cases h : a < 10
  · rw [Lib.decDigits_one h, Nat.mod_eq_of_lt h]; rfl
  · have := congrArg (fun x : ByteArray => x.data.toList) (decB_step h)
    rw [ByteArray.data_append, Array.toList_append, decB_data, decB_data] at this
    rw [← this, oneB]
    simp
theorem lim_dv {l : List UInt8} (h1 : l.length ≤ 400) (h2 : l.all isD = true) (h3 : l ≠ []) : dv l < lim := by
  have := dv_lt l h2
  rw [← lim_iff]
  have h4 : 1 ≤ l.length := by cases l; exact absurd rfl h3; simp
  exact Nat.le_trans (nDigits_le h4 this) h1
theorem rightD_dec (n : Bool) {a : Nat} (ha : a % 10 ≠ 0) (hl : a < lim) (x : Int) : rightD n (decDigits a) x = (decide (nDigits a ≤ 100) && (decide (-100 ≤ x) && decide (x ≤ 100))) := by
  have hn := isNat_dec hl
  by_cases h1 : nDigits a ≤ 100
  · rw [rightD_more hn (by rw [Lib.decDigits_length]; exact h1) (fun e => by
      have := congrArg dv e
      rw [dv_dec] at this
      rw [this] at ha
      exact ha (by decide)), dec_last, show decide (nDigits a ≤ 100) = true from by simpa using h1]
    have : (some (UInt8.ofNat (48 + a % 10)) != some 48) = true := by
      simp only [bne_iff_ne, ne_eq, Option.some.injEq]
      intro h
      have := congrArg UInt8.toNat h
      rw [dig_nat (by omega)] at this
      simp at this
      omega
    rw [this, Bool.and_true, Bool.true_and]
  · rw [rightD_long (by rw [Lib.decDigits_length]; omega), show decide (nDigits a ≤ 100) = false from by simpa using h1]; rfl

theorem makeR_bad {n : Bool} {l : List UInt8} {e : Int} (h : l = [] ∨ 400 < l.length ∨ e < -1000 ∨ 1000 < e ∨ l.all isD = false) : makeR n l e = none := by rw [makeR, if_pos h]
theorem makeR_zero {n : Bool} {l : List UInt8} {e : Int} (h : ¬ (l = [] ∨ 400 < l.length ∨ e < -1000 ∨ 1000 < e ∨ l.all isD = false)) (h0 : dv l = 0) : makeR n l e = some (false, 0, 0) := by rw [makeR, if_neg h, if_pos h0]
theorem makeR_more {n : Bool} {l : List UInt8} {e : Int} {a k : Nat} (h : ¬ (l = [] ∨ 400 < l.length ∨ e < -1000 ∨ 1000 < e ∨ l.all isD = false)) (hm : dv l = a * 10 ^ k) (ha : a % 10 ≠ 0) (hk : k ≤ 400) :
    makeR n l e = if nDigits a ≤ 100 ∧ -100 ≤ e + k ∧ e + k ≤ 100 then some (n, a, e + k) else none := by
  have h0 : dv l ≠ 0 := by
    rw [hm]
    intro h
    rcases Nat.mul_eq_zero.1 h with h | h
    · rw [h] at ha; exact ha rfl
    · exact absurd h (Nat.ne_of_gt (Nat.pow_pos (by omega)))
  rw [makeR, if_neg h, if_neg h0, hm, strp_eq ha (by omega)]

end Go.Proofs.YtppapkpceejnkaaGreatDoor

namespace Go.Proofs.YtppapkpceejnkaaGreatDoor
open Go.RowKit
open Go.Lib (decDigits nDigits)

end Go.Proofs.YtppapkpceejnkaaGreatDoor

namespace Go.Proofs.YtppapkpceejnkaaGreatDoor
open Go.RowKit
open Go.Lib (decDigits nDigits)

theorem right_parts {n : Bool} {l : List UInt8} {e : Int} (h : rightD n l e = true) : isNat l = true ∧ l.length ≤ 100 ∧ -100 ≤ e ∧ e ≤ 100 := by
  rw [rightD, Bool.and_eq_true, Bool.and_eq_true] at h
  obtain ⟨⟨h1, h2⟩, h3⟩ := h
  refine ⟨h1, by simpa using h2, ?_⟩
  split at h3
  · simp at h3; omega
  · simp at h3; omega

end Go.Proofs.YtppapkpceejnkaaGreatDoor

namespace Go.Proofs.YtppapkpceejnkaaGreatDoor
open Go.RowKit
open Go.Lib (decDigits nDigits)

def decE : Option (Bool × Nat × Int) → Int
  | some _ => 0
  | none => 40
/-- What ToInt tells of a decimal. -/
def toI (n : Bool) (l : List UInt8) (e : Int) : Option (Bool × Nat) :=
  if rightD n l e = true ∧ 0 ≤ e ∧ e ≤ 20 ∧ dv l * 10 ^ e.toNat < 18446744073709551616 then some (n, dv l * 10 ^ e.toNat) else none
theorem dv_zeros (l : List UInt8) (k : Nat) : dv (l ++ List.replicate k 48) = dv l * 10 ^ k := by
  induction k with
  | zero => simp
  | succ k ih => rw [List.replicate_succ', ← List.append_assoc, dv_snoc, ih, Nat.pow_succ, Nat.mul_assoc]; rfl
end Go.Proofs.YtppapkpceejnkaaGreatDoor

namespace Go.Proofs.YtppapkpceejnkaaGreatDoor
open Go.Lib (decDigits nDigits)

/-- What an exponent is, and how many bytes it takes; none: it has too many digits. -/
def isE (c : UInt8) : Bool := c == 101 || c == 69
def headIs (p : UInt8 → Bool) (l : List UInt8) : Bool := match l with | [] => false | c :: _ => p c
/-- What does not go on with a number. -/
structure Stop (t : List UInt8) : Prop where
  dig : headIs isD t = false
  e : headIs isE t = false
  point : t.head? ≠ some 46
theorem Stop.nil : Stop [] := ⟨rfl, rfl, by simp⟩
end Go.Proofs.YtppapkpceejnkaaGreatDoor

namespace Go.Proofs.YtppapkpceejnkaaGreatDoor
open Go.Lib (decDigits nDigits)

def numL (x : Int) : List UInt8 := if x < 0 then 45 :: decDigits x.natAbs else decDigits x.natAbs
/-- The plain writing, without its sign. -/
def padL (l : List UInt8) (k : Nat) : List UInt8 := List.replicate (1 + k - l.length) 48 ++ l
def fmtL (l : List UInt8) (e : Int) : List UInt8 :=
  if e < -20 ∨ 20 < e then l ++ 101 :: numL e
  else if 0 ≤ e then l ++ List.replicate e.toNat 48
  else (padL l e.natAbs).take ((padL l e.natAbs).length - e.natAbs) ++ 46 :: (padL l e.natAbs).drop ((padL l e.natAbs).length - e.natAbs)
theorem app_data (a b : ByteArray) : (a ++ b).data.toList = a.data.toList ++ b.data.toList := by rw [ByteArray.data_append, Array.toList_append]
/-- What is made of digits among zeros. -/
theorem dv_pad (p : Nat) (l : List UInt8) : dv (List.replicate p 48 ++ l) = dv l := by
  induction p with
  | zero => rfl
  | succ p ih => rw [List.replicate_succ, List.cons_append, dv_zero_cons, ih]
theorem all_rep (p : Nat) : (List.replicate p (48 : UInt8)).all isD = true := by
  rw [List.all_eq_true]
  intro x hx
  rw [(List.mem_replicate.1 hx).2]; decide
/-- A right decimal's digits, as a number. -/
theorem right_num {n : Bool} {l : List UInt8} {e : Int} (h : rightD n l e = true) (h0 : l ≠ [48]) : decDigits (dv l) = l ∧ dv l % 10 ≠ 0 ∧ nDigits (dv l) ≤ 100 ∧ l.head? ≠ some 48 := by
  obtain ⟨h1, h2, _, _⟩ := right_parts h
  obtain ⟨g1, g2, g3, g4⟩ := isNat_parts h1
  have g3' : l.head? ≠ some 48 := by
    rcases g3 with g | g
    · exact g
    · exact absurd g h0
  have hc := dec_canon g1 (.inl g3') g4
  have hr := rightD_more (n := n) (e := e) h1 h2 h0
  rw [h] at hr
  have hr2 := hr.symm
  simp only [Bool.and_eq_true] at hr2
  refine ⟨hc, ?_, ?_, g3'⟩
  · intro hz
    have h3 := dec_last (a := dv l)
    rw [hc, hz] at h3
    have h4 := hr2.2
    rw [h3] at h4
    exact absurd h4 (by decide)
  · have := congrArg List.length hc
    rw [Lib.decDigits_length] at this
    omega
theorem make_right {n : Bool} {l q : List UInt8} {e x : Int} {p z : Nat} (h : rightD n l e = true) (hq : q = List.replicate p 48 ++ l ++ List.replicate z 48) (hl : q.length ≤ 400) (hx : x = e - z) (hz : z ≤ 400) (hx1 : -1000 ≤ x) (hx2 : x ≤ 1000) :
    makeR n q x = some (n, dv l, e) := by
  obtain ⟨h1, h2, h3, h4⟩ := right_parts h
  obtain ⟨g1, g2, g3, g4⟩ := isNat_parts h1
  have hqd : dv q = dv l * 10 ^ z := by rw [hq, dv_zeros, dv_pad]
  have hqa : q.all isD = true := by rw [hq, List.all_append, List.all_append, all_rep, all_rep, g4]; rfl
  have hqn : q ≠ [] := by
    intro e
    have := congrArg List.length (hq.symm.trans e)
    simp only [List.length_append, List.length_nil] at this
    have : l.length = 0 := by omega
    exact g1 (List.eq_nil_of_length_eq_zero this)
  have hok : ¬ (q = [] ∨ 400 < q.length ∨ x < -1000 ∨ 1000 < x ∨ q.all isD = false) := by
    rintro (h | h | h | h | h)
    · exact hqn h
    · omega
    · omega
    · omega
    · rw [hqa] at h; cases h
  by_cases h0 : l = [48]
  · subst h0
    rw [rightD_zero] at h
    simp only [Bool.and_eq_true, decide_eq_true_eq, Bool.not_eq_true'] at h
    obtain ⟨rfl, rfl⟩ := h
    rw [makeR_zero hok (by rw [hqd, show dv [48] = 0 from by decide, Nat.zero_mul])]
    rfl
  · obtain ⟨k1, k2, k3, _⟩ := right_num h h0
    rw [makeR_more hok hqd k2 hz, if_pos ⟨k3, by omega, by omega⟩, show x + (z : Int) = e from by omega]

end Go.Proofs.YtppapkpceejnkaaGreatDoor

namespace Go.Proofs.YtppapkpceejnkaaGreatDoor
open Go.Lib (decDigits nDigits)

/-- A number, and the zeros at its end. -/
theorem strip : ∀ m : Nat, m ≠ 0 → ∃ a k, m = a * 10 ^ k ∧ a % 10 ≠ 0 := by
  intro m
  induction m using Nat.strongRecOn with
  | _ m ih =>
    intro h
    by_cases hz : m % 10 = 0
    · obtain ⟨a, k, h1, h2⟩ := ih (m / 10) (by omega) (by omega)
      refine ⟨a, k + 1, ?_, h2⟩
      rw [Nat.pow_succ, ← Nat.mul_assoc, ← h1]; omega
    · exact ⟨m, 0, by simp, hz⟩
theorem dec_zeros {a k : Nat} (ha : a % 10 ≠ 0) : decDigits a ++ List.replicate k 48 = decDigits (a * 10 ^ k) := by
  have hne : decDigits a ++ List.replicate k 48 ≠ [] := by
    intro e
    exact dec_ne a (List.append_eq_nil_iff.1 e).1
  have hal : (decDigits a ++ List.replicate k 48).all isD = true := by rw [List.all_append, all_dec, all_rep]; rfl
  have hv : dv (decDigits a ++ List.replicate k 48) = a * 10 ^ k := by rw [dv_zeros, dv_dec]
  rw [← hv]
  refine (dec_canon hne ?_ hal).symm
  left
  intro e
  have hh : (decDigits a).head? = some 48 := by
    cases h : decDigits a with
    | nil => exact absurd h (dec_ne a)
    | cons c r => rw [h] at e; exact e
  obtain ⟨r, hr⟩ : ∃ r, decDigits a = 48 :: r := by
    cases h : decDigits a with
    | nil => rw [h] at hh; cases hh
    | cons c r => rw [h] at hh; simp at hh; subst hh; exact ⟨r, rfl⟩
  have h1 := dv_dec a
  have h2 : dv r < 10 ^ r.length := dv_lt r (by have := all_dec a; rw [hr, List.all_cons, Bool.and_eq_true] at this; exact this.2)
  rw [hr, dv_zero_cons] at h1
  have h3 : nDigits a = r.length + 1 := by rw [← Lib.decDigits_length, hr]; rfl
  rcases Nat.eq_zero_or_pos r.length with h4 | h4
  · have : r = [] := List.eq_nil_of_length_eq_zero h4
    subst this
    have : a = 0 := by rw [← h1]; rfl
    omega
  · have := nDigits_le h4 (by rw [h1] at h2; exact h2)
    omega

/-- Whole numbers. -/
theorem whole {n : Bool} {k : Nat} (hk : k < 18446744073709551616) : ∃ (m : Bool) (a : Nat) (e : Int), makeR n (decDigits k) 0 = some (m, a, e) ∧ m = (n && decide (0 < k)) ∧ toI m (decDigits a) e = some (m, k) ∧ rightD m (decDigits a) e = true ∧ 0 ≤ e ∧ e ≤ 20 ∧ fmtL (decDigits a) e = decDigits k := by
  have hnd : nDigits k ≤ 20 := nDigits_le (by decide) (by omega)
  have hok : ¬ (decDigits k = [] ∨ 400 < (decDigits k).length ∨ (0 : Int) < -1000 ∨ 1000 < (0 : Int) ∨ (decDigits k).all isD = false) := by
    rintro (h | h | h | h | h)
    · exact dec_ne k h
    · rw [Lib.decDigits_length] at h; omega
    · omega
    · omega
    · rw [all_dec] at h; cases h
  by_cases h0 : k = 0
  · subst h0
    have hd : decDigits 0 = [48] := by rw [Lib.decDigits_one (by omega)]; rfl
    have hr : rightD false [48] 0 = true := by rw [rightD_zero]; rfl
    refine ⟨false, 0, 0, makeR_zero hok (dv_dec 0), by simp, ?_, by rw [hd]; exact hr, by omega, by omega, ?_⟩
    · rw [hd, toI, if_pos ⟨hr, by omega, by omega, by decide⟩]; rfl
    · rw [hd]; rfl
  · obtain ⟨a, z, h1, h2⟩ := strip k h0
    have hz : z ≤ 19 := by
      have ha : 1 ≤ a := by omega
      have h3 : 1 * 10 ^ z ≤ a * 10 ^ z := Nat.mul_le_mul_right _ ha
      have h4 : 10 ^ z < 10 ^ 20 := by
        have : (18446744073709551616 : Nat) ≤ 10 ^ 20 := by decide
        omega
      have := (Nat.pow_lt_pow_iff_right (show 1 < 10 by decide)).1 h4
      omega
    have hal : a ≤ k := by rw [h1]; exact Nat.le_mul_of_pos_right a (Nat.pow_pos (by decide))
    have hna : nDigits a ≤ 20 := nDigits_le (by decide) (by omega)
    have hlim : a < lim := (lim_iff a).1 (by omega)
    have hm : makeR n (decDigits k) 0 = some (n, a, (z : Int)) := by
      rw [makeR_more hok ((dv_dec k).trans h1) h2 (by omega), if_pos ⟨by omega, by omega, by omega⟩, Int.zero_add]
    have hr : rightD n (decDigits a) (z : Int) = true := by
      rw [rightD_dec n h2 hlim]
      simp only [Bool.and_eq_true, decide_eq_true_eq]
      omega
    refine ⟨n, a, z, hm, by simp; intro _; omega, ?_, hr, by omega, by omega, ?_⟩
    · rw [toI, if_pos ⟨hr, by omega, by omega, by rw [dv_dec, Int.toNat_natCast, ← h1]; exact hk⟩, dv_dec, Int.toNat_natCast, ← h1]
    · rw [fmtL, if_neg (by omega), if_pos (by omega), Int.toNat_natCast, dec_zeros h2, ← h1]

theorem right_neg0 {e : Int} : rightD true [48] e = false := by rw [rightD_zero]; simp
end Go.Proofs.YtppapkpceejnkaaGreatDoor

namespace Go.Proofs.YtppapkpceejnkaaGreatDoor
open Go.RowKit
open Go.Lib (decDigits nDigits)

end Go.Proofs.YtppapkpceejnkaaGreatDoor

namespace Go.Proofs.YtppapkpceejnkaaGreatDoor
open Go.RowKit
open Go.Lib (decDigits nDigits)

def dN : Option (Bool × Nat × Int) → Bool
  | some (n, _, _) => n
  | none => false
def dS : Option (Bool × Nat × Int) → ByteArray
  | some (_, a, _) => decB a
  | none => noB
def dX : Option (Bool × Nat × Int) → Int
  | some (_, _, e) => e
  | none => 0
def tN : Option (Bool × Nat) → Bool
  | some (n, _) => n
  | none => false
def tK : Option (Bool × Nat) → Nat
  | some (_, k) => k
  | none => 0
/-- What a call that makes a decimal tells. -/
def DecP (R : Option (Bool × Nat × Int)) (w : World) (o : Ending) (w' : World) : Prop := o = .returned (.tuple #[.agg #[.bool (dN R), .string (dS R), .int .i64 (dX R)], .int .i64 (decE R)]) ∧ Below w.heap.size w w'
def ValP (R : Option (Bool × Nat × Int)) (w : World) (o : Ending) (w' : World) : Prop := o = .returned (.agg #[.bool (dN R), .string (dS R), .int .i64 (dX R)]) ∧ Below w.heap.size w w'
def ToP (R : Option (Bool × Nat)) (w : World) (o : Ending) (w' : World) : Prop := o = .returned (.tuple #[.bool (tN R), .int .u64 (tK R : Int), .bool R.isSome]) ∧ Below w.heap.size w w'
def BoolP (b : Bool) (w : World) (o : Ending) (w' : World) : Prop := o = .returned (.bool b) ∧ Below w.heap.size w w'

end Go.Proofs.YtppapkpceejnkaaGreatDoor
