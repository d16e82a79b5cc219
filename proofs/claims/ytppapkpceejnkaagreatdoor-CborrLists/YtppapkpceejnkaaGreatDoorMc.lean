/- Plain mathematics: numerals and their numbers. (Declarations of the texts on nat that name no program.) The walks of the document's own naturals: Right, Trim, Of, To. Decimals, and the walks of the document's own Right, digits, Num, zeros. The walk of the document's own Make. The walk of the document's own Make: its ways. The walks of the document's own Num and Format. The walks of the document's own OfInt and ToInt. Plain mathematics: what is written, and what it is read as. Plain mathematics: plain writings are read as what they are of. Plain mathematics: what is made is right; whole numbers; however a number is written. The walk of the document's own Parse. What the document's own functions tell, by parts. -/
import Derived.Test.YtppapkpceejnkaaGreatDoorProg
import Derived.WalkKit
import Derived.WalkSpells
import Derived.WalkLawsBesides
import Derived.WalkMore
import Derived.Lib.Hide
import Derived.Lib.ItoaMem
import Derived.Lib.Repeat
import Derived.Lib.Strings
import Derived.Lib.OwnBridge
import Derived.Lib.SmallJoins
import Derived.Maps.AppendAt
import Derived.Deep.LoopGhost
import Derived.Deep.Cut
import Derived.Deep.CutRange
import Derived.Deep.DeepCutAuto
import Derived.Deep.QuietTactic
import Derived.BigQuiet
import Derived.StillTail
import Derived.StillTailTactics
import Derived.Shelf.RegionOpenPlain
import Derived.Deep.RegionWith

namespace Go.Proofs.YtppapkpceejnkaaGreatDoor
open Go.RowKit
open Go.Lib

/-- The number at a place, 0 past the end. -/
def lat (L : List Nat) (j : Nat) : Nat := L[j]?.getD 0

/-- The slice value v holds the limbs L in the world W. -/
def Lm (W : World) (v : Value) (L : List Nat) : Prop :=
  (v = .slice none 0 0 ∧ L = []) ∨ ∃ b off cap, v = .slice (some ⟨b, off, none⟩) L.length cap ∧ L.length ≤ cap ∧ b < W.heap.size ∧
    ∀ j, j < L.length → W.cell? ⟨b, off + j, none⟩ = some (.int .u32 (lat L j : Nat))

/-- -1, 0 or 1. -/
def cmpI (a b : Int) : Int := if a < b then -1 else if b < a then 1 else 0

/-- The number whose first k digits, the least one first, are f 0, f 1, .. -/
def vt (f : Nat → Nat) : Nat → Nat
  | 0 => 0
  | k + 1 => vt f k + f k * 1000000000 ^ k

/-- The number of a list of limbs. -/
def val (L : List Nat) : Nat := vt (lat L) L.length

/-- Every limb is below the base. -/
def Bd (L : List Nat) : Prop := ∀ j, lat L j < 1000000000

/-- The last one is not 0. -/
def Nm (L : List Nat) : Prop := L = [] ∨ lat L (L.length - 1) ≠ 0

theorem cmpI_lt {a b : Int} (h : a < b) : cmpI a b = -1 := by simp [cmpI, h]

theorem cmpI_gt {a b : Int} (h : b < a) : cmpI a b = 1 := by rw [cmpI, if_neg (by omega), if_pos h]

theorem cmpI_eq (a : Int) : cmpI a a = 0 := by simp [cmpI]

/-- Just k digits of n. -/
def digs : Nat → Nat → List UInt8
  | 0, _ => []
  | k + 1, n => digs k (n / 10) ++ [UInt8.ofNat (48 + n % 10)]

theorem dec_digs (n : Nat) : decDigits n = digs (nDigits n) n := by
  induction n using Nat.strongRecOn with
  | _ n ih =>
    by_cases h : n < 10
    · rw [nDigits_small h, Go.Lib.decDigits_one h, digs, digs, Nat.mod_eq_of_lt h]; rfl
    · rw [decDigits, dif_neg h, nDigits_big h, digs, ih (n / 10) (by omega)]

theorem nDigits_le {k n : Nat} (hk : 1 ≤ k) (h : n < 10 ^ k) : nDigits n ≤ k := by
  induction k generalizing n with
  | zero => omega
  | succ k ih =>
    by_cases h1 : n < 10
    · rw [nDigits_small h1]; omega
    · rw [nDigits_big h1]
      cases k with
      | zero => simp at h; omega
      | succ k => have := ih (n := n / 10) (by omega) (by rw [Nat.pow_succ] at h; omega); omega

theorem nDigits_le_iff {k n : Nat} (hk : 1 ≤ k) : nDigits n ≤ k ↔ n < 10 ^ k := by
  refine ⟨fun h => ?_, nDigits_le hk⟩
  have h1 := lt_pow_nDigits n
  have h2 : 10 ^ nDigits n ≤ 10 ^ k := Nat.pow_le_pow_right (by omega) h
  omega

/-- The number of the k greatest limbs. -/
def hv (L : List Nat) (k : Nat) : Nat := vt (fun j => lat L (L.length - k + j)) k

/-- A natural ends here. -/
def lim : Nat := 10 ^ 400

theorem lim_iff (n : Nat) : nDigits n ≤ 400 ↔ n < lim := by
  unfold lim
  exact nDigits_le_iff (k := 400) (by omega)

def byteAt (s : ByteArray) (i : Nat) : UInt8 := s.data[i]?.getD 0

/-- Is it a digit? -/
def isD (c : UInt8) : Bool := 48 ≤ c.toNat && c.toNat ≤ 57

/-- Is it a natural? -/
def isNat (l : List UInt8) : Bool := !l.isEmpty && l.length ≤ 400 && (l.head? != some 48 || l == [48]) && l.all isD

/-- The number of digits. -/
def dv (l : List UInt8) : Nat := l.foldl (fun a c => a * 10 + (c.toNat - 48)) 0

theorem dv_snoc (l : List UInt8) (c : UInt8) : dv (l ++ [c]) = dv l * 10 + (c.toNat - 48) := by simp [dv]

theorem byteAt_list (s : ByteArray) (i : Nat) : byteAt s i = s.data.toList[i]?.getD 0 := by simp [byteAt]

/-- What makes read go on to the digits. -/
def Goes (s : ByteArray) : Prop := 0 < s.size ∧ s.size ≤ 400 ∧ ((byteAt s 0).toNat = 48 → s.data.toList = [48])

theorem isNat_iff (s : ByteArray) : isNat s.data.toList = true ↔ Goes s ∧ ∀ t, t < s.size → isD (byteAt s t) = true := by
  have hsz := Lib.size_eq s
  have hall : s.data.toList.all isD = true ↔ ∀ t, t < s.size → isD (byteAt s t) = true := by
    rw [List.all_eq_true]
    constructor
    · intro h t ht
      have : t < s.data.toList.length := by omega
      rw [byteAt_list]
      simp only [List.getElem?_eq_getElem this, Option.getD_some]
      exact h _ (List.getElem_mem _)
    · intro h c hc
      obtain ⟨t, ht, rfl⟩ := List.getElem_of_mem hc
      have := h t (by omega)
      rw [byteAt_list] at this
      simpa only [List.getElem?_eq_getElem ht, Option.getD_some] using this
  rw [isNat, Bool.and_eq_true, hall, Bool.and_eq_true, Bool.and_eq_true, Goes, byteAt_list]
  refine and_congr ?_ Iff.rfl
  cases hl : s.data.toList with
  | nil =>
    rw [hl, List.length_nil] at hsz
    simp only [List.isEmpty_nil, Bool.not_true, Bool.false_eq_true, false_and, hsz, Nat.lt_irrefl]
  | cons c r =>
    rw [hl] at hsz
    have h48 : c.toNat = 48 ↔ c = 48 := by rw [← UInt8.toNat_inj]; rfl
    simp only [List.isEmpty_cons, Bool.not_false, true_and, decide_eq_true_eq, List.head?_cons, List.getElem?_cons_zero, Option.getD_some, h48, Bool.or_eq_true, bne_iff_ne, ne_eq, Option.some.injEq, beq_iff_eq]
    simp only [List.length_cons] at hsz ⊢
    constructor
    · rintro ⟨h1, h2⟩
      exact ⟨by omega, by omega, fun e => h2.resolve_left (fun h => h e)⟩
    · rintro ⟨h0, h1, h2⟩
      refine ⟨by omega, ?_⟩
      by_cases e : c = 48
      · exact .inr (h2 e)
      · exact .inl e

theorem byteAt_eq (s : ByteArray) (i : Nat) (h : i < s.size) : byteAt s i = s[i] := by simp [byteAt, h]; rfl

/-- The limbs of two naturals, in a slice. -/
def Two (a b : Nat) (g : Nat) (w' : World) : Prop := ∃ R1 v1 R2 v2, w'.cell? ⟨g, 0, none⟩ = some v1 ∧ w'.cell? ⟨g, 1, none⟩ = some v2 ∧ g < w'.heap.size ∧
  (Lm w' v1 R1 ∧ Bd R1 ∧ Nm R1 ∧ val R1 = a ∧ R1.length ≤ 45) ∧ (Lm w' v2 R2 ∧ Bd R2 ∧ Nm R2 ∧ val R2 = b ∧ R2.length ≤ 45)

theorem isD_iff (c : UInt8) : isD c = true ↔ 48 ≤ c.toNat ∧ c.toNat ≤ 57 := by
  rw [isD]
  simp

theorem dec_step {n : Nat} (h : ¬ n < 10) : decDigits n = decDigits (n / 10) ++ [UInt8.ofNat (48 + n % 10)] := by
  conv => lhs; rw [decDigits]
  rw [dif_neg h]

theorem dig_nat {d : Nat} (h : d < 10) : (UInt8.ofNat (48 + d)).toNat = 48 + d := by
  rw [UInt8.toNat_ofNat', Nat.mod_eq_of_lt (by simp; omega)]

/-- The number of a numeral. -/
theorem dv_dec (n : Nat) : dv (decDigits n) = n := by
  induction n using Nat.strongRecOn with
  | _ n ih =>
    by_cases h : n < 10
    · rw [decDigits_one h, dv, List.foldl_cons, List.foldl_nil, dig_nat h]; omega
    · rw [dec_step h, dv_snoc, ih (n / 10) (by omega), dig_nat (by omega)]; omega

theorem all_dec (n : Nat) : (decDigits n).all isD = true := by
  induction n using Nat.strongRecOn with
  | _ n ih =>
    by_cases h : n < 10
    · rw [decDigits_one h, List.all_cons, List.all_nil, Bool.and_true, isD_iff, dig_nat h]; omega
    · rw [dec_step h, List.all_append, ih (n / 10) (by omega), List.all_cons, List.all_nil, Bool.and_true, Bool.true_and, isD_iff, dig_nat (by omega)]; omega

theorem dec_ne (n : Nat) : decDigits n ≠ [] := by
  intro e
  have := decDigits_length n
  have := nDigits_pos n
  rw [e, List.length_nil] at *
  omega

theorem head_dec {n : Nat} (h : 0 < n) : ∃ c, (decDigits n).head? = some c ∧ 49 ≤ c.toNat := by
  induction n using Nat.strongRecOn with
  | _ n ih =>
    by_cases h1 : n < 10
    · rw [decDigits_one h1]; exact ⟨_, rfl, by rw [dig_nat h1]; omega⟩
    · obtain ⟨c, hc, h2⟩ := ih (n / 10) (by omega) (by omega)
      refine ⟨c, ?_, h2⟩
      rw [dec_step h1, List.head?_append, hc]; rfl

theorem isNat_dec {n : Nat} (h : n < lim) : isNat (decDigits n) = true := by
  have h1 : (decDigits n).length ≤ 400 := by rw [decDigits_length]; exact (lim_iff n).2 h
  have h2 : ((decDigits n).head? != some 48 || decDigits n == [48]) = true := by
    by_cases h0 : n = 0
    · subst h0; rw [decDigits_one (by omega)]; rfl
    · obtain ⟨c, hc, h2⟩ := head_dec (n := n) (by omega)
      rw [hc]
      have : c ≠ 48 := by rintro rfl; simp at h2
      simp [this]
  have h3 : (decDigits n).isEmpty = false := by
    cases e : decDigits n with
    | nil => exact absurd e (dec_ne n)
    | cons => rfl
  rw [isNat, h3, all_dec, h2]
  simp [h1]

/-- Digits of just that length. -/
theorem digs_dv (l : List UInt8) (h : l.all isD = true) : digs l.length (dv l) = l := by
  induction hn : l.length generalizing l with
  | zero => rw [List.eq_nil_of_length_eq_zero hn]; rfl
  | succ k ih =>
    obtain ⟨m, c, rfl⟩ : ∃ m c, l = m ++ [c] := ⟨l.dropLast, l.getLast (by intro e; subst e; simp at hn), (List.dropLast_concat_getLast _).symm⟩
    rw [List.all_append] at h
    simp only [List.all_cons, List.all_nil, Bool.and_true, Bool.and_eq_true] at h
    obtain ⟨h1, h2⟩ := h
    rw [isD_iff] at h2
    rw [List.length_append, List.length_singleton] at hn
    have e1 : (dv m * 10 + (c.toNat - 48)) / 10 = dv m := by omega
    have e2 : (dv m * 10 + (c.toNat - 48)) % 10 = c.toNat - 48 := by omega
    rw [dv_snoc, digs, e1, e2, ih m h1 (by omega), show 48 + (c.toNat - 48) = c.toNat from by omega]
    simp

theorem dv_lt (l : List UInt8) (h : l.all isD = true) : dv l < 10 ^ l.length := by
  induction hn : l.length generalizing l with
  | zero => rw [List.eq_nil_of_length_eq_zero hn]; simp [dv]
  | succ k ih =>
    obtain ⟨m, c, rfl⟩ : ∃ m c, l = m ++ [c] := ⟨l.dropLast, l.getLast (by intro e; subst e; simp at hn), (List.dropLast_concat_getLast _).symm⟩
    rw [List.all_append] at h
    simp only [List.all_cons, List.all_nil, Bool.and_true, Bool.and_eq_true] at h
    obtain ⟨h1, h2⟩ := h
    rw [isD_iff] at h2
    rw [List.length_append, List.length_singleton] at hn
    have := ih m h1 (by omega)
    rw [dv_snoc, Nat.pow_succ]
    omega

theorem dv_ge (c : UInt8) (l : List UInt8) (h : 49 ≤ c.toNat) : 10 ^ l.length ≤ dv (c :: l) := by
  induction hn : l.length generalizing l with
  | zero => rw [List.eq_nil_of_length_eq_zero hn]; simp [dv]; omega
  | succ k ih =>
    obtain ⟨m, d, rfl⟩ : ∃ m c, l = m ++ [c] := ⟨l.dropLast, l.getLast (by intro e; subst e; simp at hn), (List.dropLast_concat_getLast _).symm⟩
    rw [List.length_append, List.length_singleton] at hn
    have := ih m (by omega)
    rw [← List.cons_append, dv_snoc, Nat.pow_succ]
    omega

theorem isNat_parts {l : List UInt8} (h : isNat l = true) : l ≠ [] ∧ l.length ≤ 400 ∧ (l.head? ≠ some 48 ∨ l = [48]) ∧ l.all isD = true := by
  rw [isNat] at h
  simp only [Bool.and_eq_true, Bool.not_eq_true', decide_eq_true_eq, Bool.or_eq_true, bne_iff_ne, ne_eq, beq_iff_eq] at h
  obtain ⟨⟨⟨h1, h2⟩, h3⟩, h4⟩ := h
  exact ⟨by intro e; subst e; simp at h1, h2, h3, h4⟩
end Go.Proofs.YtppapkpceejnkaaGreatDoor

namespace Go.Proofs.YtppapkpceejnkaaGreatDoor
open Go.RowKit
open Go.Lib (decDigits nDigits decDigits_length decDigits_one nDigits_small lt_pow_nDigits)

theorem str_inj {a b : ByteArray} (h : a.data.toList = b.data.toList) : a = b := ByteArray.ext (Array.toList_inj.1 h)

def decB (n : Nat) : ByteArray := ⟨(decDigits n).toArray⟩

theorem decB_data (n : Nat) : (decB n).data.toList = decDigits n := by simp [decB]

theorem not_nat {s : ByteArray} (h : ¬ (Goes s ∧ ∀ t, t < s.size → isD (byteAt s t) = true)) : isNat s.data.toList = false := by
  rw [Bool.eq_false_iff]
  intro h1
  exact h ((isNat_iff s).1 h1)

set_option maxRecDepth 100000 in
set_option maxHeartbeats 1000000 in
theorem rRight_calls (s : ByteArray) (w : World) : Calls Tryz.prog 160 #[.string s] w fun e w' => e = .returned (.bool (isNat s.data.toList)) ∧ w' = w := by
  by_cases hz : s.size = 0
  · have HN := Lib.hid (not_nat (s := s) (fun h => by have := h.1.1; omega))
    go_enter Tryz.func160, Tryz.ntmps160
    go_wp2
    go_ret
    exact ⟨by rw [HN.out]; rfl, rfl⟩
  · by_cases h4 : 400 < s.size
    · have HN := Lib.hid (not_nat (s := s) (fun h => by have := h.1.2.1; omega))
      go_enter Tryz.func160, Tryz.ntmps160
      go_wp2
      go_ret
      exact ⟨by rw [HN.out]; rfl, rfl⟩
    · have h0 : 0 < s.size := by omega
      by_cases hc : 1 < s.size ∧ (byteAt s 0).toNat = 48
      · obtain ⟨h1, hb⟩ := hc
        have HN := Lib.hid (not_nat (s := s) (fun h => by have h2 := h.1.2.2 hb; have h3 := Lib.size_eq s; rw [h2] at h3; simp at h3; omega))
        have hb' : (((s[0]'h0).toNat : Int) == 48) = true := by rw [← byteAt_eq s 0 h0, hb]; rfl
        go_enter Tryz.func160, Tryz.ntmps160
        go_wp2
        go_ret
        exact ⟨by rw [HN.out]; rfl, rfl⟩
      · have HG : Hid (Goes s) := Lib.hid ⟨h0, by omega, fun h => by
          have h1 : s.size = 1 := by
            rcases Nat.lt_or_ge 1 s.size with h' | h'
            · exact absurd ⟨h', h⟩ hc
            · omega
          have h3 := Lib.size_eq s
          rw [byteAt_list] at h
          cases e : s.data.toList with
          | nil => rw [e, List.length_nil] at h3; omega
          | cons c l =>
            rw [e] at h3 h
            have : l = [] := List.eq_nil_of_length_eq_zero (by rw [List.length_cons] at h3; omega)
            subst this
            have : c = 48 := UInt8.toNat.inj (by simpa using h)
            rw [this]⟩
        have hdec : s.size = 1 ∨ (1 < s.size ∧ (((s[0]'h0).toNat : Int) == 48) = false) := by
          rcases Nat.lt_or_ge 1 s.size with h' | h'
          · refine .inr ⟨h', ?_⟩
            rw [← byteAt_eq s 0 h0]
            exact beq_eq_false_iff_ne.2 (fun e => hc ⟨h', by omega⟩)
          · exact .inl (by omega)
        clear hc
        rcases hdec with h1 | ⟨h1, hb⟩
        all_goals
          go_enter Tryz.func160, Tryz.ntmps160
          go_wp2
          go_loop [3] (fun i => ∃ k : Nat, i = .int .i64 k ∧ k ≤ s.size ∧ ∀ t, t < k → isD (byteAt s t) = true) (fun i => s.size - (intOf i).toNat)
          case atStart => exact ⟨0, rfl, Nat.zero_le _, fun t ht => by omega⟩
          case round =>
            obtain ⟨k, rfl, hk, ht⟩ := hrel
            have HD := Lib.hid ht
            clear ht
            by_cases hlt : k < s.size
            · have hbe : (s[k]'hlt).toNat = (byteAt s k).toNat := by rw [byteAt_eq s k hlt]
              have hby : (byteAt s k).toNat < 256 := (byteAt s k).toNat_lt
              by_cases hl : (byteAt s k).toNat < 48
              · have HN := Lib.hid (not_nat (s := s) (fun h => by have := (isD_iff _).1 (h.2 k hlt); omega))
                go_wp2
                go_ret
                exact ⟨by rw [HN.out]; rfl, rfl⟩
              · by_cases hg : 57 < (byteAt s k).toNat
                · have HN := Lib.hid (not_nat (s := s) (fun h => by have := (isD_iff _).1 (h.2 k hlt); omega))
                  go_wp2
                  go_ret
                  exact ⟨by rw [HN.out]; rfl, rfl⟩
                · go_wp2
                  go_round
                  case rel =>
                    refine ⟨k + 1, by go_num, by omega, fun t ht => ?_⟩
                    by_cases e : t = k
                    · subst e; exact (isD_iff _).2 (by omega)
                    · exact HD.out t (by omega)
                  case measure => simp [intOf]; omega
            · have HN := Lib.hid ((isNat_iff s).2 ⟨HG.out, fun t ht => HD.out t (by omega)⟩)
              go_wp2
              go_ret
              exact ⟨by rw [HN.out]; rfl, rfl⟩

/-- Digits without a nought ahead are their number's numeral, however many. -/
theorem dec_canon {l : List UInt8} (h1 : l ≠ []) (h3 : l.head? ≠ some 48 ∨ l.length = 1) (h4 : l.all isD = true) : decDigits (dv l) = l := by
  have hl : nDigits (dv l) = l.length := by
    cases l with
    | nil => exact absurd rfl h1
    | cons c m =>
      have h5 := (List.all_eq_true.1 h4) c (by simp)
      rw [isD_iff] at h5
      rcases h3 with h3 | h3
      · have hc : 49 ≤ c.toNat := by
          have : c.toNat ≠ 48 := by
            intro e
            apply h3
            have : c = 48 := UInt8.toNat.inj e
            rw [this]; rfl
          omega
        have h6 := dv_ge c m hc
        have h7 := nDigits_le (k := m.length + 1) (by omega) (dv_lt (c :: m) h4)
        have h8 := lt_pow_nDigits (dv (c :: m))
        have h9 : m.length < nDigits (dv (c :: m)) := by
          rcases Nat.lt_or_ge m.length (nDigits (dv (c :: m))) with h | h
          · exact h
          · have := Nat.pow_le_pow_right (show 0 < 10 by omega) h
            omega
        rw [List.length_cons]; omega
      · have : m = [] := List.eq_nil_of_length_eq_zero (by simpa using h3)
        subst this
        exact nDigits_small (by simp [dv]; omega)
  rw [dec_digs, hl, digs_dv l h4]

theorem dv_zero_cons (l : List UInt8) : dv (48 :: l) = dv l := by simp [dv]

theorem drop_one (s : ByteArray) : (s.extract 1 s.size).data.toList = s.data.toList.drop 1 := by
  have h : s.size = s.data.toList.length := Lib.size_eq s
  rw [ByteArray.data_extract, Array.toList_extract, List.extract_eq_take_drop, List.take_of_length_le (by rw [List.length_drop]; omega)]

/-- s: digits, one at least. -/
def Digs (s : ByteArray) : Prop := s.data.toList ≠ [] ∧ s.data.toList.all isD = true

theorem byte_head {t : ByteArray} (hs : t.data.toList ≠ []) : ∃ c l, t.data.toList = c :: l ∧ byteAt t 0 = c := by
  cases e : t.data.toList with
  | nil => exact absurd e hs
  | cons c l => exact ⟨c, l, rfl, by rw [byteAt_list, e]; rfl⟩

theorem trim_step {t : ByteArray} (hd : Digs t) (h1 : 1 < t.size) (hb : (byteAt t 0).toNat = 48) : Digs (t.extract 1 t.size) ∧ dv (t.extract 1 t.size).data.toList = dv t.data.toList ∧ (t.extract 1 t.size).size + 1 = t.size := by
  obtain ⟨c, l, e, hc⟩ := byte_head hd.1
  have h3 := Lib.size_eq t
  have h4 : c = 48 := UInt8.toNat.inj (by rw [← hc, hb]; rfl)
  have hall := hd.2
  rw [e, List.all_cons, Bool.and_eq_true] at hall
  rw [e, List.length_cons] at h3
  subst h4
  rw [Digs, drop_one, e, List.drop_one, List.tail_cons, ByteArray.size_extract]
  refine ⟨⟨?_, hall.2⟩, (dv_zero_cons l).symm, by omega⟩
  rintro rfl
  simp only [List.length_nil] at h3
  omega

theorem trimmed {t : ByteArray} (hd : Digs t) (h : ¬ (1 < t.size ∧ (byteAt t 0).toNat = 48)) : decB (dv t.data.toList) = t := by
  obtain ⟨c, l, e, hc⟩ := byte_head hd.1
  have h3 := Lib.size_eq t
  refine str_inj ?_
  rw [decB_data]
  refine dec_canon hd.1 ?_ hd.2
  by_cases h1 : 1 < t.size
  · left
    rw [e, List.head?_cons]
    intro h4
    injection h4 with h4
    exact h ⟨h1, by rw [hc, h4]; rfl⟩
  · right
    rw [e, List.length_cons] at h3 ⊢
    omega

theorem dv_cons (c : UInt8) (l : List UInt8) : dv (c :: l) = (c.toNat - 48) * 10 ^ l.length + dv l := by
  induction hn : l.length generalizing l with
  | zero => rw [List.eq_nil_of_length_eq_zero hn]; simp [dv]
  | succ k ih =>
    obtain ⟨m, d, rfl⟩ : ∃ m c, l = m ++ [c] := ⟨l.dropLast, l.getLast (by intro e; subst e; simp at hn), (List.dropLast_concat_getLast _).symm⟩
    rw [List.length_append, List.length_singleton] at hn
    rw [← List.cons_append, dv_snoc, dv_snoc, ih m (by omega), Nat.pow_succ, Nat.add_mul, ← Nat.mul_assoc]
    omega

def oneB (n : Nat) : ByteArray := ⟨#[UInt8.ofNat (48 + n)]⟩

theorem conv_one (W : World) (n : Nat) (hn : n < 10) : (convert 45 9 (.slice (some ⟨W.heap.size, 0, none⟩) 1 1)).run Tryz.prog (W.alloc (.cells #[.int .u8 ((48 : Int) + (n : Int))] 5)) = .ok (.string (oneB n)) (W.alloc (.cells #[.int .u8 ((48 : Int) + (n : Int))] 5)) := by
  refine run_convert_bytes_back _ 45 9 5 ⟨W.heap.size, 0, none⟩ 1 [UInt8.ofNat (48 + n)] Tryz.underlying45 Tryz.underlying5 Tryz.underlying9 (fun j hj => ?_)
  have : j = 0 := by simp at hj; omega
  subst this
  rw [Addr.add_lit]
  simp only [List.getElem_cons_zero, dig_nat hn]
  have := cell_one_new W (.int .u8 ((48 : Int) + (n : Int))) 5 0 _ rfl
  rw [Addr.add_lit] at this
  rw [this, show ((48 + n : Nat) : Int) = (48 : Int) + (n : Int) from by omega]

theorem conv_int (W : World) (n : Nat) (x : Int) (hx : x = (n : Int)) (hn : n < 10) : (convert 45 9 (.slice (some ⟨W.heap.size, 0, none⟩) 1 1)).run Tryz.prog (W.alloc (.cells #[.int .u8 ((48 : Int) + x)] 5)) = .ok (.string (oneB n)) (W.alloc (.cells #[.int .u8 ((48 : Int) + x)] 5)) := by
  subst hx
  exact conv_one W n hn

theorem nat_digs {s : ByteArray} (h : isNat s.data.toList = true) : Digs s ∧ s.size ≤ 400 := by
  obtain ⟨h1, h2, _, h4⟩ := isNat_parts h
  exact ⟨⟨h1, h4⟩, by rw [Lib.size_eq]; exact h2⟩

theorem rRight_is (s : ByteArray) (v : Bool) (w : World) (h : isNat s.data.toList = v) : Calls Tryz.prog 160 #[.string s] w fun e w' => e = .returned (.bool v) ∧ w' = w := h ▸ rRight_calls s w

theorem dv_app (p q : List UInt8) : dv (p ++ q) = dv p * 10 ^ q.length + dv q := by
  induction hn : q.length generalizing q with
  | zero => rw [List.eq_nil_of_length_eq_zero hn]; simp [dv]
  | succ k ih =>
    obtain ⟨m, d, rfl⟩ : ∃ m c, q = m ++ [c] := ⟨q.dropLast, q.getLast (by intro e; subst e; simp at hn), (List.dropLast_concat_getLast _).symm⟩
    rw [List.length_append, List.length_singleton] at hn
    rw [← List.append_assoc, dv_snoc, dv_snoc, ih m (by omega), Nat.pow_succ, Nat.add_mul, ← Nat.mul_assoc]
    omega

theorem short_lt {l m : List UInt8} (hl : isNat l = true) (hm : isNat m = true) (h : l.length < m.length) : dv l < dv m := by
  have h1 := dv_lt l (isNat_parts hl).2.2.2
  obtain ⟨m1, _, m3, m4⟩ := isNat_parts hm
  have l1 : 1 ≤ l.length := by
    cases l with
    | nil => exact absurd rfl (isNat_parts hl).1
    | cons => simp
  cases m with
  | nil => exact absurd rfl m1
  | cons c r =>
    have hc : 49 ≤ c.toNat := by
      have h5 := (isD_iff c).1 ((List.all_eq_true.1 m4) c (by simp))
      rcases m3 with m3 | m3
      · have : c.toNat ≠ 48 := by
          intro e
          apply m3
          have : c = 48 := UInt8.toNat.inj e
          rw [this]; rfl
        omega
      · rw [m3, List.length_singleton] at h; omega
    have h2 := dv_ge c r hc
    rw [List.length_cons] at h
    have h3 : 10 ^ l.length ≤ 10 ^ r.length := Nat.pow_le_pow_right (by omega) (by omega)
    omega

theorem place_lt {a b : ByteArray} {k : Nat} (hlen : a.size = b.size) (hk : k < a.size) (ha : a.data.toList.all isD = true) (heq : ∀ t, t < k → byteAt a t = byteAt b t) (hlt : (byteAt a k).toNat < (byteAt b k).toNat) : dv a.data.toList < dv b.data.toList := by
  have la := Lib.size_eq a
  have lb := Lib.size_eq b
  have hka : k < a.data.toList.length := by omega
  have hkb : k < b.data.toList.length := by omega
  have ht : a.data.toList.take k = b.data.toList.take k := by
    apply List.ext_getElem
    · simp only [List.length_take]; omega
    · intro t h1 h2
      rw [List.length_take] at h1 h2
      have := heq t (by omega)
      rw [byteAt_list, byteAt_list, List.getElem?_eq_getElem (by omega), List.getElem?_eq_getElem (by omega)] at this
      simpa using this
  have ea : a.data.toList = a.data.toList.take k ++ byteAt a k :: a.data.toList.drop (k + 1) := by
    rw [byteAt_list, List.getElem?_eq_getElem hka, Option.getD_some, ← List.drop_eq_getElem_cons hka, List.take_append_drop]
  have eb : b.data.toList = b.data.toList.take k ++ byteAt b k :: b.data.toList.drop (k + 1) := by
    rw [byteAt_list, List.getElem?_eq_getElem hkb, Option.getD_some, ← List.drop_eq_getElem_cons hkb, List.take_append_drop]
  have ra : dv (a.data.toList.drop (k + 1)) < 10 ^ (a.data.toList.drop (k + 1)).length := dv_lt _ (by rw [List.all_eq_true] at ha ⊢; exact fun x hx => ha x (List.mem_of_mem_drop hx))
  have da : 48 ≤ (byteAt a k).toNat := by
    have hm : byteAt a k ∈ a.data.toList := by
      rw [byteAt_list, List.getElem?_eq_getElem hka, Option.getD_some]
      exact List.getElem_mem hka
    have := (List.all_eq_true.1 ha) (byteAt a k) hm
    exact ((isD_iff _).1 this).1
  have hll : (a.data.toList.drop (k + 1)).length = (b.data.toList.drop (k + 1)).length := by rw [List.length_drop, List.length_drop]; omega
  rw [ea, eb, dv_app, dv_app, dv_cons, dv_cons, List.length_cons, List.length_cons, ht, ← hll]
  have h1 : ((byteAt a k).toNat - 48 + 1) * 10 ^ (a.data.toList.drop (k + 1)).length ≤ ((byteAt b k).toNat - 48) * 10 ^ (a.data.toList.drop (k + 1)).length := Nat.mul_le_mul_right _ (by omega)
  rw [Nat.add_mul] at h1
  omega

theorem all_eq {a b : ByteArray} (hlen : a.size = b.size) (heq : ∀ t, t < a.size → byteAt a t = byteAt b t) : a = b := by
  have la := Lib.size_eq a
  have lb := Lib.size_eq b
  refine str_inj (List.ext_getElem (by omega) fun t h1 h2 => ?_)
  have := heq t (by omega)
  rw [byteAt_list, byteAt_list, List.getElem?_eq_getElem h1, List.getElem?_eq_getElem h2] at this
  simpa using this

set_option maxRecDepth 100000 in
set_option maxHeartbeats 2000000 in
theorem rCompare_in (a b : ByteArray) (w : World) (ha : isNat a.data.toList = true) (hb : isNat b.data.toList = true) :
    Calls Tryz.prog 161 #[.string a, .string b] w fun e w' => e = .returned (.int .i64 (cmpI (dv a.data.toList) (dv b.data.toList))) ∧ Below w.heap.size w w' := by
  obtain ⟨da, la⟩ := nat_digs ha
  obtain ⟨db, lb⟩ := nat_digs hb
  have sa := Lib.size_eq a
  have sb := Lib.size_eq b
  rcases Nat.lt_trichotomy a.size b.size with h | h | h
  · have HC := Lib.hid (cmpI_lt (show (dv a.data.toList : Int) < (dv b.data.toList : Int) by have := short_lt ha hb (by omega); omega))
    clear sa sb da db
    go_enter Tryz.func161, Tryz.ntmps161
    go_wp2
    go_ret
    exact ⟨by rw [HC.out]; rfl, Below.refl _ _⟩
  · have HDA := Lib.hid da
    have HDB := Lib.hid db
    have hmx : Tryz.prog.follows .mixedOrders = true := by kernel_rfl
    clear sa sb da db ha hb
    go_enter Tryz.func161, Tryz.ntmps161
    go_wp2
    go_loopw [5] (fun i wr => ∃ k : Nat, i = .int .i64 k ∧ k ≤ a.size ∧ (∀ t, t < k → byteAt a t = byteAt b t) ∧ Below w.heap.size w wr) (fun i _ => a.size - (intOf i).toNat)
    case atStart => exact ⟨0, rfl, Nat.zero_le _, fun t ht => by omega, Below.refl _ _⟩
    case round =>
      obtain ⟨k, rfl, hk, he, hnx⟩ := hrel
      have HE := Lib.hid he
      have HN := Lib.hid hnx
      clear he hnx
      by_cases hlt : k < a.size
      · have hlb : k < b.size := by omega
        have hba : (a[k]'hlt).toNat = (byteAt a k).toNat := by rw [byteAt_eq a k hlt]
        have hbb : (b[k]'hlb).toNat = (byteAt b k).toNat := by rw [byteAt_eq b k hlb]
        rcases Nat.lt_trichotomy (byteAt a k).toNat (byteAt b k).toNat with h1 | h1 | h1
        · have HC := Lib.hid (cmpI_lt (show (dv a.data.toList : Int) < (dv b.data.toList : Int) by have := place_lt h hlt HDA.out.2 HE.out h1; omega))
          go_wp2_with fail
          go_region_o
          all_goals go_wp2
          all_goals go_ret
          all_goals exact ⟨by rw [HC.out]; rfl, HN.out.drew⟩
        · have h2 : byteAt a k = byteAt b k := UInt8.toNat.inj h1
          have h3 : ¬ (byteAt a k).toNat < (byteAt b k).toNat := by omega
          have h4 : ¬ (byteAt b k).toNat < (byteAt a k).toNat := by omega
          have H2 := Lib.hid h2
          clear h2 h1
          go_wp2_with fail
          go_region_o
          all_goals go_wp2_with fail
          all_goals go_region_o
          all_goals go_wp2
          all_goals go_roundw
          case rel =>
            refine ⟨k + 1, by go_num, by omega, fun t ht => ?_, HN.out.drew.drew⟩
            by_cases e : t = k
            · subst e; exact H2.out
            · exact HE.out t (by omega)
          case measure => simp [intOf]; omega
        · have h3 : ¬ (byteAt a k).toNat < (byteAt b k).toNat := by omega
          have HC := Lib.hid (cmpI_gt (show (dv b.data.toList : Int) < (dv a.data.toList : Int) by have := place_lt h.symm hlb HDB.out.2 (fun t ht => (HE.out t ht).symm) h1; omega))
          go_wp2_with fail
          go_region_o
          all_goals go_wp2_with fail
          all_goals go_region_o
          all_goals go_wp2
          all_goals go_ret
          all_goals exact ⟨by rw [HC.out]; rfl, HN.out.drew.drew⟩
      · have HC := Lib.hid (show cmpI (dv a.data.toList) (dv b.data.toList) = 0 by rw [all_eq h (fun t ht => HE.out t (by omega)), cmpI_eq])
        have hlb : ¬ k < b.size := by omega
        go_wp2
        go_ret
        exact ⟨by rw [HC.out]; rfl, HN.out⟩
  · have HC := Lib.hid (cmpI_gt (show (dv b.data.toList : Int) < (dv a.data.toList : Int) by have := short_lt hb ha (by omega); omega))
    have h2 : ¬ a.size < b.size := by omega
    clear sa sb da db
    go_enter Tryz.func161, Tryz.ntmps161
    go_wp2
    go_ret
    exact ⟨by rw [HC.out]; rfl, Below.refl _ _⟩

theorem rCompare_is (a b : ByteArray) (x : Int) (w : World) (ha : isNat a.data.toList = true) (hb : isNat b.data.toList = true) (hx : cmpI (dv a.data.toList) (dv b.data.toList) = x) :
    Calls Tryz.prog 161 #[.string a, .string b] w fun e w' => e = .returned (.int .i64 x) ∧ Below w.heap.size w w' := hx ▸ rCompare_in a b w ha hb

theorem decB_step {n : Nat} (h : ¬ n < 10) : decB (n / 10) ++ oneB (n % 10) = decB n := by
  refine str_inj ?_
  rw [ByteArray.data_append, Array.toList_append, decB_data, decB_data, dec_step h]
  simp [oneB]

theorem decB_one {n : Nat} (h : n < 10) : oneB n = decB n := by
  refine str_inj ?_
  rw [decB_data, Lib.decDigits_one h]
  simp [oneB]

theorem decB_size {n : Nat} (h : n < 18446744073709551616) : (decB n).size ≤ 20 := by
  rw [Lib.size_eq, decB_data, Lib.decDigits_length]
  exact nDigits_le (by omega) (by omega)

theorem dv_take (s : ByteArray) (k : Nat) (hk : k < s.size) : dv (s.data.toList.take (k + 1)) = dv (s.data.toList.take k) * 10 + ((byteAt s k).toNat - 48) := by
  have hl : k < s.data.toList.length := by rw [← Lib.size_eq]; exact hk
  rw [List.take_succ_eq_append_getElem hl, dv_snoc, byteAt_list, List.getElem?_eq_getElem hl]
  rfl

theorem decB_digs (n : Nat) : Digs (decB n) := ⟨by rw [decB_data]; exact dec_ne n, by rw [decB_data]; exact all_dec n⟩

theorem decB_len (n : Nat) : (decB n).size = nDigits n := by rw [Lib.size_eq, decB_data, Lib.decDigits_length]

def topB : ByteArray := ⟨#[49, 56, 52, 52, 54, 55, 52, 52, 48, 55, 51, 55, 48, 57, 53, 53, 49, 54, 49, 53]⟩

theorem topB_nat : isNat topB.data.toList = true := by decide

theorem topB_dv : dv topB.data.toList = 18446744073709551615 := by decide

set_option maxRecDepth 100000 in
set_option maxHeartbeats 1000000 in
theorem rTo_no (a : ByteArray) (w : World) (h : isNat a.data.toList = false) : Calls Tryz.prog 122 #[.string a] w fun e w' => e = .returned (.tuple #[.int .u64 0, .bool false]) ∧ Below w.heap.size w w' := by
  have HA := Lib.hid h
  clear h
  go_enter Tryz.func122, Tryz.ntmps122
  go_wp2_with (go_at_call 160; refine (rRight_is _ false _ HA.out).mono ?_; rintro e w1 ⟨rfl, rfl⟩)
  go_ret2
  exact ⟨rfl, Below.refl _ _⟩

theorem top_cmp (a : ByteArray) (x : Int) (w : World) (ha : isNat a.data.toList = true) (hx : cmpI (dv a.data.toList) (18446744073709551615 : Nat) = x) :
    Calls Tryz.prog 161 #[.string a, .string ⟨#[49, 56, 52, 52, 54, 55, 52, 52, 48, 55, 51, 55, 48, 57, 53, 53, 49, 54, 49, 53]⟩] w fun e w' => e = .returned (.int .i64 x) ∧ Below w.heap.size w w' :=
  rCompare_is a topB x w ha topB_nat (by rw [topB_dv]; exact hx)

set_option maxRecDepth 100000 in
set_option maxHeartbeats 1000000 in
theorem rTo_big (a : ByteArray) (w : World) (h : isNat a.data.toList = true) (hb : 18446744073709551616 ≤ dv a.data.toList) : Calls Tryz.prog 122 #[.string a] w fun e w' => e = .returned (.tuple #[.int .u64 0, .bool false]) ∧ Below w.heap.size w w' := by
  have HA := Lib.hid h
  have HX := Lib.hid (cmpI_gt (a := (dv a.data.toList : Int)) (b := ((18446744073709551615 : Nat) : Int)) (by omega))
  clear h hb
  go_enter Tryz.func122, Tryz.ntmps122
  go_wp2_with (first
    | (go_at_call 160; refine (rRight_is _ true _ HA.out).mono ?_; rintro e w1 ⟨rfl, rfl⟩)
    | (go_at_call 161; refine (top_cmp a 1 _ HA.out HX.out).mono ?_; rintro e w2 ⟨rfl, hb2⟩))
  go_ret2
  exact ⟨rfl, hb2⟩

theorem cmp_le0 (m n : Nat) (h : m ≤ n) : ∃ x : Int, cmpI m n = x ∧ x ≤ 0 := ⟨_, rfl, by rw [cmpI]; split; omega; split <;> omega⟩

theorem top_le (a : ByteArray) (ha : isNat a.data.toList = true) (hb : dv a.data.toList < 18446744073709551616) : ∃ x : Int, x ≤ 0 ∧ ∀ w, Calls Tryz.prog 161 #[.string a, .string ⟨#[49, 56, 52, 52, 54, 55, 52, 52, 48, 55, 51, 55, 48, 57, 53, 53, 49, 54, 49, 53]⟩] w fun e w' => e = .returned (.int .i64 x) ∧ Below w.heap.size w w' := by
  obtain ⟨x, hx, hx0⟩ := cmp_le0 (dv a.data.toList) 18446744073709551615 (by omega)
  exact ⟨x, hx0, fun w => top_cmp a x w ha hx⟩

theorem dv_take_le (s : ByteArray) (k : Nat) : dv (s.data.toList.take k) ≤ dv s.data.toList := by
  conv => rhs; rw [← List.take_append_drop k s.data.toList, dv_app]
  have h1 : 1 ≤ 10 ^ (s.data.toList.drop k).length := Nat.pow_pos (by omega)
  have h2 : dv (s.data.toList.take k) * 1 ≤ dv (s.data.toList.take k) * 10 ^ (s.data.toList.drop k).length := Nat.mul_le_mul_left _ h1
  omega

set_option maxRecDepth 100000 in
set_option maxHeartbeats 1000000 in
theorem rTo_yes (a : ByteArray) (w : World) (h : isNat a.data.toList = true) (hb : dv a.data.toList < 18446744073709551616) : Calls Tryz.prog 122 #[.string a] w fun e w' => e = .returned (.tuple #[.int .u64 (dv a.data.toList : Nat), .bool true]) ∧ Below w.heap.size w w' := by
  obtain ⟨da, la⟩ := nat_digs h
  have HA := Lib.hid h
  have HDA := Lib.hid da
  have HL := Lib.hid hb
  obtain ⟨x, hx0, hx⟩ := top_le a h hb
  have HX := Lib.hid hx
  clear h hb da hx
  go_enter Tryz.func122, Tryz.ntmps122
  go_wp2_with (first
    | (go_at_call 160; refine (rRight_is _ true _ HA.out).mono ?_; rintro e w1 ⟨rfl, rfl⟩)
    | (go_at_call 161; refine (HX.out _).mono ?_; rintro e w2 ⟨rfl, hb2⟩))
  go_loopw [4, 5] (fun v i wr => ∃ k : Nat, v = .int .u64 (dv (a.data.toList.take k) : Nat) ∧ i = .int .i64 k ∧ k ≤ a.size ∧ wr = w2) (fun _ i _ => a.size - (intOf i).toNat)
  case atStart => exact ⟨0, by simp [dv], rfl, Nat.zero_le _, rfl⟩
  case round =>
    obtain ⟨k, rfl, rfl, hk, rfl⟩ := hrel
    by_cases hgo : k < a.size
    · have hbe : (a[k]'hgo).toNat = (byteAt a k).toNat := by rw [byteAt_eq a k hgo]
      have hr : 48 ≤ (byteAt a k).toNat ∧ (byteAt a k).toNat ≤ 57 := by
        have hl : k < a.data.toList.length := by rw [← Lib.size_eq]; exact hgo
        rw [byteAt_list, List.getElem?_eq_getElem hl]
        exact (isD_iff _).1 ((List.all_eq_true.1 HDA.out.2) _ (List.getElem_mem hl))
      have h1 := dv_take a k hgo
      have h2 := dv_take_le a (k + 1)
      have h3 := HL.out
      obtain ⟨q, hq⟩ : ∃ q, q = dv (a.data.toList.take k) := ⟨_, rfl⟩
      rw [← hq] at h1 ⊢
      have h4 : q * 10 + ((byteAt a k).toNat - 48) < 18446744073709551616 := by omega
      have HE := Lib.hid h1
      have HQ := Lib.hid hq
      clear h1 h2 h3 hq
      go_wp2
      go_roundw
      case rel => exact ⟨k + 1, by rw [HE.out]; go_num, by go_num, hgo, by first | rfl | trivial⟩
      case measure => simp [intOf]; omega
    · obtain rfl : k = a.size := by omega
      go_wp2
      go_ret2
      exact ⟨by rw [List.take_of_length_le (by rw [← Lib.size_eq]; exact Nat.le_refl _)]; rfl, hb2⟩
end Go.Proofs.YtppapkpceejnkaaGreatDoor

namespace Go.Proofs.YtppapkpceejnkaaGreatDoor
open Go.RowKit
open Go.Lib (decDigits nDigits)

/-- No bytes. -/
def noB : ByteArray := ⟨#[]⟩
/-- A decimal as a value. -/
def decV (n : Bool) (s : ByteArray) (e : Int) : Value := .agg #[.bool n, .string s, .int .i64 e]
/-- Is a decimal right? -/
def rightD (n : Bool) (l : List UInt8) (e : Int) : Bool :=
  isNat l && decide (l.length ≤ 100) && (if l = [48] then decide (e = 0) && !n else decide (-100 ≤ e) && decide (e ≤ 100) && (l.getLast? != some 48))

theorem rightD_nat {n : Bool} {l : List UInt8} {e : Int} (h : isNat l = false) : rightD n l e = false := by rw [rightD, h]; rfl
theorem rightD_long {n : Bool} {l : List UInt8} {e : Int} (h : 100 < l.length) : rightD n l e = false := by
  rw [rightD, show decide (l.length ≤ 100) = false from by simp; omega]; simp
theorem rightD_zero {n : Bool} {e : Int} : rightD n [48] e = (decide (e = 0) && !n) := by
  rw [rightD, show isNat [48] = true from by decide]; simp
theorem rightD_more {n : Bool} {l : List UInt8} {e : Int} (h1 : isNat l = true) (h2 : l.length ≤ 100) (h3 : l ≠ [48]) : rightD n l e = (decide (-100 ≤ e) && decide (e ≤ 100) && (l.getLast? != some 48)) := by
  rw [rightD, h1, show decide (l.length ≤ 100) = true from by simp; omega, if_neg h3]; simp
theorem last_byte {s : ByteArray} (h : 0 < s.size) : (s.data.toList.getLast? != some 48) = !(((byteAt s (s.size - 1)).toNat : Int) == 48) := by
  rw [List.getLast?_eq_getElem?, ← Lib.size_eq, byteAt_list]
  have hl : s.size - 1 < s.data.toList.length := by rw [← Lib.size_eq]; omega
  rw [List.getElem?_eq_getElem hl]
  generalize s.data.toList[s.size - 1] = c
  rw [Option.getD_some]
  by_cases hc : c = 48
  · subst hc; rfl
  · have h1 : ¬ c.toNat = 48 := fun e => hc (UInt8.toNat_inj.1 e)
    rw [show ((c.toNat : Int) == 48) = false from by simp; omega, show (some c != some 48) = true from by simp [hc]]
    rfl

set_option maxRecDepth 100000 in
set_option maxHeartbeats 1000000 in
theorem rRight4_calls (n : Bool) (s : ByteArray) (e : Int) (w : World) : Calls Tryz.prog 121 #[decV n s e] w fun o w' => o = .returned (.bool (rightD n s.data.toList e)) ∧ Below w.heap.size w w' := by
  unfold decV
  cases hn : isNat s.data.toList with
  | false =>
    have HN := Lib.hid hn
    have HR : Hid (rightD n s.data.toList e = false) := Lib.hid (rightD_nat hn)
    clear hn
    go_enter Tryz.func121, Tryz.ntmps121
    go_wp2_with (go_at_call 160; refine (rRight_is _ false _ HN.out).mono ?_; rintro e w1 ⟨rfl, rfl⟩)
    go_ret
    exact ⟨by rw [HR.out]; rfl, (Below.refl _ _).alloc (Nat.le_refl _) _⟩
  | true =>
    have HN := Lib.hid hn
    obtain ⟨hd, hl⟩ := nat_digs hn
    have h0 : 0 < s.size := by
      rcases Nat.eq_zero_or_pos s.size with h | h
      · exact absurd (List.eq_nil_of_length_eq_zero (by rw [← Lib.size_eq]; exact h)) hd.1
      · exact h
    clear hd
    by_cases h1 : 100 < s.size
    · have HR : Hid (rightD n s.data.toList e = false) := Lib.hid (rightD_long (by rw [← Lib.size_eq]; exact h1))
      have hb : decide ((100 : Int) < (s.size : Int)) = true := by simp; omega
      clear hn
      go_enter Tryz.func121, Tryz.ntmps121
      go_wp2_with (go_at_call 160; refine (rRight_is _ true _ HN.out).mono ?_; rintro e w1 ⟨rfl, rfl⟩)
      go_ret
      exact ⟨by rw [HR.out]; rfl, (Below.refl _ _).alloc (Nat.le_refl _) _⟩
    · have hb : decide ((100 : Int) < (s.size : Int)) = false := by simp; omega
      by_cases h2 : s.data.toList = [48]
      · have HR : Hid (rightD n s.data.toList e = (decide (e = 0) && !n)) := Lib.hid (by rw [h2]; exact rightD_zero)
        have hq : (s.toList == [48]) = true := by rw [Lib.toList_data, h2]; rfl
        clear hn h2
        by_cases he : e = 0
        · subst he
          cases n
          all_goals
            go_enter Tryz.func121, Tryz.ntmps121
            go_wp2_with (go_at_call 160; refine (rRight_is _ true _ HN.out).mono ?_; rintro e w1 ⟨rfl, rfl⟩)
            go_ret
            exact ⟨by rw [HR.out]; rfl, (Below.refl _ _).alloc (Nat.le_refl _) _⟩
        · have hz : (e == 0) = false := by simpa using he
          go_enter Tryz.func121, Tryz.ntmps121
          go_wp2_with (go_at_call 160; refine (rRight_is _ true _ HN.out).mono ?_; rintro e w1 ⟨rfl, rfl⟩)
          go_ret
          exact ⟨by rw [HR.out, show decide (e = 0) = false from by simpa using he]; rfl, (Below.refl _ _).alloc (Nat.le_refl _) _⟩
      · have HR : Hid (rightD n s.data.toList e = (decide (-100 ≤ e) && decide (e ≤ 100) && !(((byteAt s (s.size - 1)).toNat : Int) == 48))) := Lib.hid (by rw [rightD_more hn (by rw [← Lib.size_eq]; omega) h2, last_byte h0])
        have hq : (s.toList == [48]) = false := by rw [Lib.toList_data]; exact beq_eq_false_iff_ne.2 h2
        have hq' : ¬ s.toList = [48] := by rw [Lib.toList_data]; exact h2
        clear hn h2
        by_cases he1 : -100 ≤ e
        · by_cases he2 : e ≤ 100
          · obtain ⟨p, hp⟩ : ∃ p, p = s.size - 1 := ⟨_, rfl⟩
            have hpi : (s.size : Int) - 1 = (p : Int) := by omega
            have hpl : p < s.size := by omega
            have hpv : (s[p]'hpl).toNat = (byteAt s p).toNat := by rw [byteAt_eq s p hpl]
            rw [← hp, show decide (-100 ≤ e) = true from by simpa using he1, show decide (e ≤ 100) = true from by simpa using he2] at HR
            clear hp
            by_cases hc : (byteAt s p).toNat = 48
            · have hcb : (((byteAt s p).toNat : Int) == 48) = true := by rw [hc]; rfl
              rw [hcb] at HR
              go_enter Tryz.func121, Tryz.ntmps121
              go_wp2_with (go_at_call 160; refine (rRight_is _ true _ HN.out).mono ?_; rintro e w1 ⟨rfl, rfl⟩)
              go_ret
              exact ⟨by rw [HR.out]; rfl, (Below.refl _ _).alloc (Nat.le_refl _) _⟩
            · have hcb : (((byteAt s p).toNat : Int) == 48) = false := by simp; omega
              have hcn : (((byteAt s p).toNat : Int) != 48) = true := by simp; omega
              rw [hcb] at HR
              go_enter Tryz.func121, Tryz.ntmps121
              go_wp2_with (go_at_call 160; refine (rRight_is _ true _ HN.out).mono ?_; rintro e w1 ⟨rfl, rfl⟩)
              go_ret
              exact ⟨by rw [HR.out]; rfl, (Below.refl _ _).alloc (Nat.le_refl _) _⟩
          · rw [show decide (e ≤ 100) = false from by simpa using he2, Bool.and_false, Bool.false_and] at HR
            go_enter Tryz.func121, Tryz.ntmps121
            go_wp2_with (go_at_call 160; refine (rRight_is _ true _ HN.out).mono ?_; rintro e w1 ⟨rfl, rfl⟩)
            go_ret
            exact ⟨by rw [HR.out]; rfl, (Below.refl _ _).alloc (Nat.le_refl _) _⟩
        · rw [show decide (-100 ≤ e) = false from by simpa using he1, Bool.false_and, Bool.false_and] at HR
          go_enter Tryz.func121, Tryz.ntmps121
          go_wp2_with (go_at_call 160; refine (rRight_is _ true _ HN.out).mono ?_; rintro e w1 ⟨rfl, rfl⟩)
          go_ret
          exact ⟨by rw [HR.out]; rfl, (Below.refl _ _).alloc (Nat.le_refl _) _⟩

/-- How many digits a text begins with. -/
def ndig (l : List UInt8) : Nat := (l.takeWhile isD).length
theorem ndig_le (l : List UInt8) : ndig l ≤ l.length := by
  unfold ndig
  exact List.Sublist.length_le (List.takeWhile_sublist _)
theorem ndig_stop {l : List UInt8} {k : Nat} (h1 : ∀ j, j < k → ∃ c, l[j]? = some c ∧ isD c = true) (h2 : ∀ c, l[k]? = some c → isD c = false) : ndig l = k := by
  induction k generalizing l with
  | zero =>
    cases l with
    | nil => rfl
    | cons c l => rw [ndig, List.takeWhile_cons, h2 c rfl]; rfl
  | succ k ih =>
    cases l with
    | nil => obtain ⟨c, hc, _⟩ := h1 0 (by omega); simp at hc
    | cons c l =>
      obtain ⟨d, hd, hd2⟩ := h1 0 (by omega)
      obtain rfl : c = d := by simpa using hd
      have := ih (l := l) (fun j hj => by have := h1 (j + 1) (by omega); simpa using this) (fun c hc => h2 c (by simpa using hc))
      rw [ndig, List.takeWhile_cons, hd2]
      simp only [if_true, List.length_cons]
      rw [show (l.takeWhile isD).length = k from this]

/-- So many zeros. -/
def zerB (n : Nat) : ByteArray := ⟨(List.replicate n 48).toArray⟩
theorem zerB_data (n : Nat) : (zerB n).data.toList = List.replicate n 48 := by simp [zerB]
theorem zerB_size (n : Nat) : (zerB n).size = n := by rw [Lib.size_eq, zerB_data]; simp
theorem zerB_succ (n : Nat) : zerB n ++ ⟨#[48]⟩ = zerB (n + 1) := str_inj (by
  rw [ByteArray.data_append, Array.toList_append, zerB_data, zerB_data, List.replicate_succ'])

set_option maxRecDepth 100000 in
set_option maxHeartbeats 1000000 in
theorem zeros_calls (x : Int) (w : World) (hx : x ≤ 100000) : Calls Tryz.prog 123 #[.int .i64 x] w fun o w' => o = .returned (.string (zerB x.toNat)) ∧ w = w' := by
  go_enter Tryz.func123, Tryz.ntmps123
  go_wp2
  go_loop [3, 4] (fun v i => ∃ k : Nat, i = .int .i64 k ∧ v = .string (zerB k) ∧ k ≤ x.toNat) (fun _ i => x.toNat - (intOf i).toNat)
  case atStart => exact ⟨0, rfl, rfl, by omega⟩
  case round =>
    obtain ⟨k, rfl, rfl, hk⟩ := hrel
    have hsz := zerB_size k
    by_cases hlt : (k : Int) < x
    · have HS := Lib.hid (zerB_succ k)
      go_wp2
      go_round
      case rel => exact ⟨k + 1, by go_num, by rw [← HS.out], by omega⟩
      case measure => simp [intOf]; omega
    · have HS : Hid (x.toNat = k) := Lib.hid (by omega)
      go_wp2
      go_ret
      exact ⟨by rw [HS.out]; rfl, rfl⟩
end Go.Proofs.YtppapkpceejnkaaGreatDoor

namespace Go.Proofs.YtppapkpceejnkaaGreatDoor
open Go.RowKit
open Go.Lib (decDigits nDigits)

/-- A number without the zeros at its end, and how many they were. -/
def strp : Nat → Nat → Nat × Nat
  | 0, m => (m, 0)
  | f + 1, m => if m % 10 = 0 then ((strp f (m / 10)).1, (strp f (m / 10)).2 + 1) else (m, 0)
theorem strp_eq {a k : Nat} (ha : a % 10 ≠ 0) : ∀ {f : Nat}, k < f → strp f (a * 10 ^ k) = (a, k) := by
  induction k with
  | zero =>
    intro f hf
    obtain ⟨f, rfl⟩ : ∃ g, f = g + 1 := ⟨f - 1, by omega⟩
    rw [Nat.pow_zero, Nat.mul_one, strp, if_neg ha]
  | succ k ih =>
    intro f hf
    obtain ⟨f, rfl⟩ : ∃ g, f = g + 1 := ⟨f - 1, by omega⟩
    have e1 : a * 10 ^ (k + 1) / 10 = a * 10 ^ k := by rw [Nat.pow_succ, ← Nat.mul_assoc, Nat.mul_div_cancel _ (by omega)]
    have e2 : a * 10 ^ (k + 1) % 10 = 0 := by rw [Nat.pow_succ, ← Nat.mul_assoc, Nat.mul_mod_left]
    rw [strp, if_pos e2, e1, ih (by omega)]

/-- What is made of a sign, digits and an exponent. -/
def makeR (n : Bool) (l : List UInt8) (e : Int) : Option (Bool × Nat × Int) :=
  if l = [] ∨ 400 < l.length ∨ e < -1000 ∨ 1000 < e ∨ l.all isD = false then none
  else if dv l = 0 then some (false, 0, 0)
  else if nDigits (strp 401 (dv l)).1 ≤ 100 ∧ -100 ≤ e + (strp 401 (dv l)).2 ∧ e + (strp 401 (dv l)).2 ≤ 100 then some (n, (strp 401 (dv l)).1, e + (strp 401 (dv l)).2) else none
def DecRes : Option (Bool × Nat × Int) → Value
  | some (n, a, e) => .tuple #[decV n (decB a) e, .int .i64 0]
  | none => .tuple #[decV false noB 0, .int .i64 40]

theorem dec_last {a : Nat} : (decDigits a).getLast? = some (UInt8.ofNat (48 + a % 10)) := by
  by_cases h : a < 10
  · rw [Lib.decDigits_one h, Nat.mod_eq_of_lt h]; rfl
  · have := congrArg (fun x : ByteArray => x.data.toList) (decB_step h)
    rw [ByteArray.data_append, Array.toList_append, decB_data, decB_data] at this
    rw [← this, oneB]
    simp
theorem lim_dv {l : List UInt8} (h1 : l.length ≤ 400) (h2 : l.all isD = true) (h3 : l ≠ []) : dv l < lim := by
  have := dv_lt l h2
  rw [← lim_iff]
  have h4 : 1 ≤ l.length := by cases l; exact absurd rfl h3; simp
  exact Nat.le_trans (nDigits_le h4 this) h1
theorem rightD_dec (n : Bool) {a : Nat} (ha : a % 10 ≠ 0) (hl : a < lim) (x : Int) : rightD n (decDigits a) x = (decide (nDigits a ≤ 100) && (decide (-100 ≤ x) && decide (x ≤ 100))) := by
  have hn := isNat_dec hl
  by_cases h1 : nDigits a ≤ 100
  · rw [rightD_more hn (by rw [Lib.decDigits_length]; exact h1) (fun e => by
      have := congrArg dv e
      rw [dv_dec] at this
      rw [this] at ha
      exact ha (by decide)), dec_last, show decide (nDigits a ≤ 100) = true from by simpa using h1]
    have : (some (UInt8.ofNat (48 + a % 10)) != some 48) = true := by
      simp only [bne_iff_ne, ne_eq, Option.some.injEq]
      intro h
      have := congrArg UInt8.toNat h
      rw [dig_nat (by omega)] at this
      simp at this
      omega
    rw [this, Bool.and_true, Bool.true_and]
  · rw [rightD_long (by rw [Lib.decDigits_length]; omega), show decide (nDigits a ≤ 100) = false from by simpa using h1]; rfl

theorem makeR_bad {n : Bool} {l : List UInt8} {e : Int} (h : l = [] ∨ 400 < l.length ∨ e < -1000 ∨ 1000 < e ∨ l.all isD = false) : makeR n l e = none := by rw [makeR, if_pos h]
theorem makeR_zero {n : Bool} {l : List UInt8} {e : Int} (h : ¬ (l = [] ∨ 400 < l.length ∨ e < -1000 ∨ 1000 < e ∨ l.all isD = false)) (h0 : dv l = 0) : makeR n l e = some (false, 0, 0) := by rw [makeR, if_neg h, if_pos h0]
theorem makeR_more {n : Bool} {l : List UInt8} {e : Int} {a k : Nat} (h : ¬ (l = [] ∨ 400 < l.length ∨ e < -1000 ∨ 1000 < e ∨ l.all isD = false)) (hm : dv l = a * 10 ^ k) (ha : a % 10 ≠ 0) (hk : k ≤ 400) :
    makeR n l e = if nDigits a ≤ 100 ∧ -100 ≤ e + k ∧ e + k ≤ 100 then some (n, a, e + k) else none := by
  have h0 : dv l ≠ 0 := by
    rw [hm]
    intro h
    rcases Nat.mul_eq_zero.1 h with h | h
    · rw [h] at ha; exact ha rfl
    · exact absurd h (Nat.ne_of_gt (Nat.pow_pos (by omega)))
  rw [makeR, if_neg h, if_neg h0, hm, strp_eq ha (by omega)]

theorem decB_cut {m : Nat} (h : ¬ m < 10) : (decB m).extract 0 ((decB m).size - 1) = decB (m / 10) := by
  refine str_inj ?_
  rw [Lib.extract_data, List.drop_zero, Nat.sub_zero, ← decB_step h, ByteArray.size_append, ByteArray.data_append, Array.toList_append]
  rw [show (decB (m / 10)).size + (oneB (m % 10)).size - 1 = (decB (m / 10)).data.toList.length from by rw [show (oneB (m % 10)).size = 1 from rfl, Lib.size_eq]; omega]
  exact List.take_left
theorem decB_at {m : Nat} : (byteAt (decB m) ((decB m).size - 1)).toNat = 48 + m % 10 := by
  have h := dec_last (a := m)
  rw [List.getLast?_eq_getElem?] at h
  rw [byteAt_list, Lib.size_eq, decB_data, h]
  exact dig_nat (by omega)
theorem decB_pos (m : Nat) : 0 < (decB m).size := by
  rw [decB_len]
  exact Lib.nDigits_pos m
end Go.Proofs.YtppapkpceejnkaaGreatDoor

namespace Go.Proofs.YtppapkpceejnkaaGreatDoor
open Go.RowKit
open Go.Lib (decDigits nDigits)

theorem decB_not0 {m : Nat} (h : m ≠ 0) : ¬ (decB m).toList = [48] := by
  rw [Lib.toList_data, decB_data]
  intro e
  have := congrArg dv e
  rw [dv_dec] at this
  exact h (this.trans (by decide))
def strOf : Value → ByteArray
  | .string s => s
  | _ => noB
theorem pow_nd {m a k : Nat} (h : nDigits m ≤ 400) (hm : m = a * 10 ^ k) (ha : a ≠ 0) : k ≤ 400 := by
  have h1 := Lib.lt_pow_nDigits m
  have h2 : 1 * 10 ^ k ≤ m := by rw [hm]; exact Nat.mul_le_mul_right _ (by omega)
  have h3 : 10 ^ k < 10 ^ nDigits m := by omega
  have := (Nat.pow_lt_pow_iff_right (show 1 < 10 by omega)).1 h3
  omega

/-- Two decimals laid one behind the other, as a call leaves them. -/
theorem two_dec {w w2 : World} {a0 a1 a2 b0 b1 b2 : Value} {T : TypeId} (hb : Below ((w.alloc (.cells #[a0, a1, a2] T)).alloc (.cells #[b0, b1, b2] T)).heap.size ((w.alloc (.cells #[a0, a1, a2] T)).alloc (.cells #[b0, b1, b2] T)) w2) :
    (w2.cell? ⟨w.heap.size + 1, 0, none⟩ = some b0 ∧ w2.cell? ⟨w.heap.size + 1, 1, none⟩ = some b1 ∧ w2.cell? ⟨w.heap.size + 1, 2, none⟩ = some b2) ∧
    (w2.cell? ⟨w.heap.size, 0, none⟩ = some a0 ∧ w2.cell? ⟨w.heap.size, 1, none⟩ = some a1 ∧ w2.cell? ⟨w.heap.size, 2, none⟩ = some a2) ∧
    (w2.frozen? ⟨w.heap.size, 0, none⟩ = false ∧ w2.frozen? ⟨w.heap.size, 1, none⟩ = false ∧ w2.frozen? ⟨w.heap.size, 2, none⟩ = false) ∧ w.heap.size + 1 < w2.heap.size := by
  refine ⟨⟨(hb.cell (p := ⟨w.heap.size + 1, 0, none⟩) (by simp)).trans (by simp), (hb.cell (p := ⟨w.heap.size + 1, 1, none⟩) (by simp)).trans (by simp), (hb.cell (p := ⟨w.heap.size + 1, 2, none⟩) (by simp)).trans (by simp)⟩,
    ⟨(hb.cell (p := ⟨w.heap.size, 0, none⟩) (by simp; omega)).trans (by simp), (hb.cell (p := ⟨w.heap.size, 1, none⟩) (by simp; omega)).trans (by simp), (hb.cell (p := ⟨w.heap.size, 2, none⟩) (by simp; omega)).trans (by simp)⟩,
    ⟨(hb.frozen (p := ⟨w.heap.size, 0, none⟩) (by simp; omega)).trans (by simp), (hb.frozen (p := ⟨w.heap.size, 1, none⟩) (by simp; omega)).trans (by simp), (hb.frozen (p := ⟨w.heap.size, 2, none⟩) (by simp; omega)).trans (by simp)⟩, ?_⟩
  have := hb.size
  simp at this
  omega

/-- What Make tells. -/
def MakePost (n : Bool) (l : List UInt8) (e : Int) (w : World) (o : Ending) (w' : World) : Prop := o = .returned (DecRes (makeR n l e)) ∧ Below w.heap.size w w'
theorem make_bad {n : Bool} {l : List UInt8} {e : Int} {w w' : World} (h : makeR n l e = none) (hb : Below w.heap.size w w') : MakePost n l e w (.returned (.tuple #[.agg #[.bool false, .string ⟨#[]⟩, .int .i64 0], .int .i64 40])) w' := ⟨by rw [h]; rfl, hb⟩

end Go.Proofs.YtppapkpceejnkaaGreatDoor

namespace Go.Proofs.YtppapkpceejnkaaGreatDoor
open Go.RowKit
open Go.Lib (decDigits nDigits)

/-- A number's digits, with its sign. -/
def numB (x : Int) : ByteArray := if x < 0 then ⟨#[45]⟩ ++ decB x.natAbs else decB x.natAbs
theorem numB_pos (k : Nat) : numB (k : Int) = decB k := by rw [numB, if_neg (by omega), Int.natAbs_natCast]
theorem numB_neg {k : Nat} (h : 0 < k) : numB (-(k : Int)) = ⟨#[45]⟩ ++ decB k := by rw [numB, if_pos (by omega), Int.natAbs_neg, Int.natAbs_natCast]

theorem numB_size {x : Int} (h1 : -100000 ≤ x) (h2 : x ≤ 100000) : (numB x).size ≤ 21 := by
  have := decB_size (n := x.natAbs) (by omega)
  rw [numB]
  split
  · rw [ByteArray.size_append, show (ByteArray.mk #[45]).size = 1 from rfl]; omega
  · omega

/-- The plain writing's body. -/
def fmtB (s : ByteArray) (e : Int) : ByteArray :=
  if e < -20 ∨ 20 < e then s ++ ⟨#[101]⟩ ++ numB e
  else if 0 ≤ e then s ++ zerB e.toNat
  else (zerB (1 - e - s.size).toNat ++ s).extract 0 ((zerB (1 - e - s.size).toNat ++ s).size - e.natAbs) ++ ⟨#[46]⟩ ++ (zerB (1 - e - s.size).toNat ++ s).extract ((zerB (1 - e - s.size).toNat ++ s).size - e.natAbs) (zerB (1 - e - s.size).toNat ++ s).size
def sgnB (n : Bool) (s : ByteArray) : ByteArray := if n = true then ⟨#[45]⟩ ++ s else s
def FmtPost (n : Bool) (s : ByteArray) (e : Int) (w : World) (o : Ending) (w' : World) : Prop :=
  ((rightD n s.data.toList e = true ∧ o = .returned (.tuple #[.string (sgnB n (fmtB s e)), .int .i64 0])) ∨ (rightD n s.data.toList e = false ∧ o = .returned (.tuple #[.string noB, .int .i64 40]))) ∧ Below w.heap.size w w'

theorem one_dec {w w2 : World} {a0 a1 a2 : Value} {T : TypeId} (hb : Below (w.alloc (.cells #[a0, a1, a2] T)).heap.size (w.alloc (.cells #[a0, a1, a2] T)) w2) :
    (w2.cell? ⟨w.heap.size, 0, none⟩ = some a0 ∧ w2.cell? ⟨w.heap.size, 1, none⟩ = some a1 ∧ w2.cell? ⟨w.heap.size, 2, none⟩ = some a2) ∧ w.heap.size < w2.heap.size ∧ Below w.heap.size w w2 := by
  refine ⟨⟨(hb.cell (p := ⟨w.heap.size, 0, none⟩) (by simp)).trans (by simp), (hb.cell (p := ⟨w.heap.size, 1, none⟩) (by simp)).trans (by simp), (hb.cell (p := ⟨w.heap.size, 2, none⟩) (by simp)).trans (by simp)⟩, ?_, ((Below.refl _ w).alloc (Nat.le_refl _) _).trans (hb.mono (by simp))⟩
  have := hb.size
  simp at this
  omega

theorem right_agg {n : Bool} {s : ByteArray} {e : Int} {b : Bool} (h : rightD n s.data.toList e = b) (w : World) : Calls Tryz.prog 121 #[.agg #[.bool n, .string s, .int .i64 e]] w fun o w' => o = .returned (.bool b) ∧ Below w.heap.size w w' := by
  subst h
  exact rRight4_calls n s e w
theorem right_parts {n : Bool} {l : List UInt8} {e : Int} (h : rightD n l e = true) : isNat l = true ∧ l.length ≤ 100 ∧ -100 ≤ e ∧ e ≤ 100 := by
  rw [rightD, Bool.and_eq_true, Bool.and_eq_true] at h
  obtain ⟨⟨h1, h2⟩, h3⟩ := h
  refine ⟨h1, by simpa using h2, ?_⟩
  split at h3
  · simp at h3; omega
  · simp at h3; omega

theorem zeros_eq (x : Int) (m : Nat) (w : World) (h : x.toNat = m) (hx : x ≤ 100000) : Calls Tryz.prog 123 #[.int .i64 x] w fun o w' => o = .returned (.string (zerB m)) ∧ w = w' := by
  subst h
  exact zeros_calls x w hx

end Go.Proofs.YtppapkpceejnkaaGreatDoor

namespace Go.Proofs.YtppapkpceejnkaaGreatDoor
open Go.RowKit
open Go.Lib (decDigits nDigits)

/-- A decimal's value, and the number of the error beside it. -/
def DecVal : Option (Bool × Nat × Int) → Value
  | some (n, a, e) => decV n (decB a) e
  | none => decV false noB 0
def decE : Option (Bool × Nat × Int) → Int
  | some _ => 0
  | none => 40
theorem DecRes_eq (r : Option (Bool × Nat × Int)) : DecRes r = .tuple #[DecVal r, .int .i64 (decE r)] := by
  rcases r with _ | ⟨n, a, e⟩ <;> rfl
theorem DecVal_agg (r : Option (Bool × Nat × Int)) : ∃ (n : Bool) (s : ByteArray) (e : Int), DecVal r = .agg #[.bool n, .string s, .int .i64 e] := by
  rcases r with _ | ⟨n, a, e⟩
  · exact ⟨_, _, _, rfl⟩
  · exact ⟨_, _, _, rfl⟩

/-- What ToInt tells of a decimal. -/
def toI (n : Bool) (l : List UInt8) (e : Int) : Option (Bool × Nat) :=
  if rightD n l e = true ∧ 0 ≤ e ∧ e ≤ 20 ∧ dv l * 10 ^ e.toNat < 18446744073709551616 then some (n, dv l * 10 ^ e.toNat) else none
def ToRes : Option (Bool × Nat) → Value
  | some (n, k) => .tuple #[.bool n, .int .u64 (k : Int), .bool true]
  | none => .tuple #[.bool false, .int .u64 0, .bool false]
theorem dv_zeros (l : List UInt8) (k : Nat) : dv (l ++ List.replicate k 48) = dv l * 10 ^ k := by
  induction k with
  | zero => simp
  | succ k ih => rw [List.replicate_succ', ← List.append_assoc, dv_snoc, ih, Nat.pow_succ, Nat.mul_assoc]; rfl
theorem nat_zeros {n : Bool} {l : List UInt8} {k : Nat} (h : rightD n l (k : Int) = true) (hk : k ≤ 20) : isNat (l ++ List.replicate k 48) = true := by
  obtain ⟨h1, h2, _, _⟩ := right_parts h
  obtain ⟨g1, g2, g3, g4⟩ := isNat_parts h1
  by_cases hz : l = [48]
  · subst hz
    rw [rightD_zero] at h
    simp at h
    obtain ⟨rfl, _⟩ := h
    decide
  · have hh : l.head? ≠ some 48 := by
      rcases g3 with g | g
      · exact g
      · exact absurd g hz
    have hne : (l ++ List.replicate k 48).isEmpty = false := by
      cases l with
      | nil => exact absurd rfl g1
      | cons c l => rfl
    rw [isNat, hne, List.all_append, g4, List.length_append, List.length_replicate]
    have h5 : ((l ++ List.replicate k 48).head? != some 48) = true := by
      cases l with
      | nil => exact absurd rfl g1
      | cons c l =>
        simp only [List.cons_append, List.head?_cons] at hh ⊢
        simpa using hh
    have h6 : (List.replicate k (48 : UInt8)).all isD = true := by
      rw [List.all_replicate]
      split
      · rfl
      · decide
    rw [h5, h6]
    simp
    omega

set_option maxRecDepth 100000 in
set_option maxHeartbeats 2000000 in
theorem rToInt_no (n : Bool) (s : ByteArray) (e : Int) (w : World) (h : rightD n s.data.toList e = false ∨ e < 0 ∨ 20 < e) : Calls Tryz.prog 75 #[.agg #[.bool n, .string s, .int .i64 e]] w fun o w' => o = .returned (ToRes (toI n s.data.toList e)) ∧ Below w.heap.size w w' := by
  have HR : Hid (toI n s.data.toList e = none) := Lib.hid (by
    rw [toI, if_neg]
    rintro ⟨g1, g2, g3, _⟩
    rcases h with h | h | h
    · rw [h] at g1; cases g1
    · omega
    · omega)
  cases hr : rightD n s.data.toList e with
  | false =>
    have H := Lib.hid hr
    clear hr h
    go_enter Tryz.func75, Tryz.ntmps75
    go_wp2_with (go_at_call 121; refine (right_agg H.out _).mono ?_; rintro o w1 ⟨rfl, hb1⟩; obtain ⟨⟨c0, c1, c2⟩, hz1, hbw⟩ := one_dec hb1; have HB1 := Lib.hid hbw; clear hb1 hbw)
    go_ret3
    exact ⟨by rw [HR.out]; rfl, HB1.out⟩
  | true =>
    have H := Lib.hid hr
    have hc : e < 0 ∨ (0 ≤ e ∧ 20 < e) := by
      rcases h with h | h | h
      · rw [hr] at h; cases h
      · omega
      · omega
    clear hr h
    rcases hc with h | ⟨h1, h⟩
    · have d1 : decide (e < 0) = true := decide_eq_true h
      go_enter Tryz.func75, Tryz.ntmps75
      go_wp2_with (go_at_call 121; refine (right_agg H.out _).mono ?_; rintro o w1 ⟨rfl, hb1⟩; obtain ⟨⟨c0, c1, c2⟩, hz1, hbw⟩ := one_dec hb1; have HB1 := Lib.hid hbw; clear hb1 hbw)
      go_ret3
      exact ⟨by rw [HR.out]; rfl, HB1.out⟩
    · have d1 : decide (e < 0) = false := decide_eq_false (by omega)
      have d2 : decide ((20 : Int) < e) = true := decide_eq_true h
      go_enter Tryz.func75, Tryz.ntmps75
      go_wp2_with (go_at_call 121; refine (right_agg H.out _).mono ?_; rintro o w1 ⟨rfl, hb1⟩; obtain ⟨⟨c0, c1, c2⟩, hz1, hbw⟩ := one_dec hb1; have HB1 := Lib.hid hbw; clear hb1 hbw)
      go_ret3
      exact ⟨by rw [HR.out]; rfl, HB1.out⟩

set_option maxRecDepth 100000 in
set_option maxHeartbeats 2000000 in
theorem rToInt_walk (n : Bool) (s : ByteArray) (k : Nat) (x : Int) (b : Bool) (w : World) (h : rightD n s.data.toList (k : Int) = true) (hk : k ≤ 20) (v : Value)
    (hT : ∀ w, Calls Tryz.prog 122 #[.string (s ++ zerB k)] w fun o w' => o = .returned (.tuple #[.int .u64 x, .bool b]) ∧ Below w.heap.size w w')
    (hv : (b = true ∧ v = .tuple #[.bool n, .int .u64 x, .bool true]) ∨ (b = false ∧ v = .tuple #[.bool false, .int .u64 0, .bool false])) :
    Calls Tryz.prog 75 #[.agg #[.bool n, .string s, .int .i64 (k : Int)]] w fun o w' => o = .returned v ∧ Below w.heap.size w w' := by
  have H := Lib.hid h
  obtain ⟨_, hl, _, _⟩ := right_parts h
  have hsz : s.size ≤ 100 := by rw [Lib.size_eq]; exact hl
  have HT := Lib.hid hT
  have HZ := Lib.hid (fun w => zeros_calls (k : Int) w (by omega))
  rw [show ((k : Int)).toNat = k from by omega] at HZ
  have hzs := zerB_size k
  have d1 : decide ((k : Int) < 0) = false := decide_eq_false (by omega)
  have d2 : decide ((20 : Int) < (k : Int)) = false := decide_eq_false (by omega)
  clear h hl hT
  rcases hv with ⟨rfl, rfl⟩ | ⟨rfl, rfl⟩
  all_goals
    go_enter Tryz.func75, Tryz.ntmps75
    go_upto_region 3 with (go_at_call 121; refine (right_agg H.out _).mono ?_; rintro o w1 ⟨rfl, hb1⟩; obtain ⟨⟨c0, c1, c2⟩, hz1, hbw⟩ := one_dec hb1; have HB1 := Lib.hid hbw; clear hb1 hbw)
    have HT2 : Hid (Calls Tryz.prog 122 #[.string (s ++ zerB k)] w1.drew fun o w' => o = .returned (.tuple #[.int .u64 x, .bool _]) ∧ w'.cell? ⟨w.heap.size, 0, none⟩ = some (.bool n) ∧ Below w.heap.size w w') := Lib.hid ((HT.out w1.drew).mono fun o w' ⟨h1, h2⟩ => ⟨h1, (h2.cell (p := ⟨w.heap.size, 0, none⟩) hz1).trans c0, HB1.out.drew.trans (h2.mono (Nat.le_of_lt hz1))⟩)
    go_region_with (first
      | (go_at_call 123; refine (HZ.out _).mono ?_; rintro o w2 ⟨rfl, rfl⟩)
      | (go_at_call 122; refine HT2.out.mono ?_; rintro o w3 ⟨rfl, k0, hb3⟩; have HB3 := Lib.hid hb3; clear hb3))
    all_goals go_wp2
    all_goals go_ret3
    all_goals exact ⟨rfl, HB3.out⟩

theorem rToInt_calls (n : Bool) (s : ByteArray) (e : Int) (w : World) : Calls Tryz.prog 75 #[.agg #[.bool n, .string s, .int .i64 e]] w fun o w' => o = .returned (ToRes (toI n s.data.toList e)) ∧ Below w.heap.size w w' := by
  by_cases hb : rightD n s.data.toList e = false ∨ e < 0 ∨ 20 < e
  · exact rToInt_no n s e w hb
  · have h : rightD n s.data.toList e = true := by
      cases hr : rightD n s.data.toList e with
      | true => rfl
      | false => exact absurd (.inl hr) hb
    obtain ⟨k, rfl⟩ := Int.eq_ofNat_of_zero_le (show 0 ≤ e by omega)
    have hk : k ≤ 20 := by omega
    have hd : (s ++ zerB k).data.toList = s.data.toList ++ List.replicate k 48 := by rw [ByteArray.data_append, Array.toList_append, zerB_data]
    have hnat : isNat (s ++ zerB k).data.toList = true := by rw [hd]; exact nat_zeros h hk
    have hdv : dv (s ++ zerB k).data.toList = dv s.data.toList * 10 ^ k := by rw [hd, dv_zeros]
    by_cases hlt : dv s.data.toList * 10 ^ k < 18446744073709551616
    · refine rToInt_walk n s k (dv s.data.toList * 10 ^ k : Nat) true w h hk _ (fun w => ?_) (.inl ⟨rfl, ?_⟩)
      · have := rTo_yes (s ++ zerB k) w hnat (by rw [hdv]; exact hlt)
        rw [hdv] at this
        exact this
      · rw [toI, if_pos ⟨h, by omega, by omega, by simpa using hlt⟩]; rfl
    · refine rToInt_walk n s k 0 false w h hk _ (fun w => rTo_big (s ++ zerB k) w hnat (by rw [hdv]; omega)) (.inr ⟨rfl, ?_⟩)
      rw [toI, if_neg (by rintro ⟨_, _, _, h4⟩; exact hlt (by simpa using h4))]; rfl
end Go.Proofs.YtppapkpceejnkaaGreatDoor

namespace Go.Proofs.YtppapkpceejnkaaGreatDoor
open Go.Lib (decDigits nDigits)

/-- A sign ahead. -/
def sgnL (l : List UInt8) : Bool := decide (l.head? = some 45)
def offL (l : List UInt8) : List UInt8 := if sgnL l = true then l.tail else l
/-- How many digits stand ahead of a point. -/
def leadN (r : List UInt8) : Nat := if r.head? = some 48 then 1 else ndig r
/-- How many digits stand behind a point; 0: there is no such point. -/
def fracN (r : List UInt8) : Nat := if r.head? = some 46 then ndig r.tail else 0
/-- What an exponent is, and how many bytes it takes; none: it has too many digits. -/
def isE (c : UInt8) : Bool := c == 101 || c == 69
def isS (c : UInt8) : Bool := c == 43 || c == 45
def headIs (p : UInt8 → Bool) (l : List UInt8) : Bool := match l with | [] => false | c :: _ => p c
def atN (r : List UInt8) : Nat := if headIs isS r.tail = true then 2 else 1
def expoR (r : List UInt8) : Option (Int × Nat) :=
  if headIs isE r = true then
    if 4 < ndig (r.drop (atN r)) then none
    else if ndig (r.drop (atN r)) = 0 then some (0, 0)
    else some ((if r.tail.head? = some 45 then -(dv ((r.drop (atN r)).take (ndig (r.drop (atN r)))) : Int) else (dv ((r.drop (atN r)).take (ndig (r.drop (atN r)))) : Int)), atN r + ndig (r.drop (atN r)))
  else some (0, 0)
/-- What is read: the digits, how many of them stand behind the point, what is behind. -/
def r1L (r0 : List UInt8) : List UInt8 := r0.drop (leadN r0)
def allD (r0 : List UInt8) : List UInt8 := r0.take (leadN r0) ++ (r1L r0).tail.take (fracN (r1L r0))
def r2L (r0 : List UInt8) : List UInt8 := if fracN (r1L r0) = 0 then r1L r0 else (r1L r0).drop (1 + fracN (r1L r0))
/-- The decimal of what is written, and what is behind it. -/
def parseR (l : List UInt8) : Option ((Bool × Nat × Int) × List UInt8) :=
  if ndig (offL l) = 0 then none
  else match expoR (r2L (offL l)) with
    | none => none
    | some (k, c) => match makeR (sgnL l) (allD (offL l)) (-(fracN (r1L (offL l)) : Int) + k) with
      | none => none
      | some d => some (d, (r2L (offL l)).drop c)

theorem ndig_all {l t : List UInt8} (h : l.all isD = true) (ht : headIs isD t = false) : ndig (l ++ t) = l.length := by
  induction l with
  | nil => cases t with
    | nil => rfl
    | cons c t => rw [List.nil_append, ndig, List.takeWhile_cons, show isD c = false from ht]; rfl
  | cons c l ih =>
    simp only [List.all_cons, Bool.and_eq_true] at h
    rw [List.cons_append, ndig, List.takeWhile_cons, h.1]
    simp only [if_true, List.length_cons]
    rw [show ((l ++ t).takeWhile isD).length = l.length from ih h.2]
theorem ndig_none {t : List UInt8} (ht : headIs isD t = false) : ndig t = 0 := ndig_all (l := []) rfl ht
theorem ndig_one {l : List UInt8} (h : headIs isD l = true) : 0 < ndig l := by
  cases l with
  | nil => cases h
  | cons c l => rw [ndig, List.takeWhile_cons, show isD c = true from h]; simp

/-- What does not go on with a number. -/
structure Stop (t : List UInt8) : Prop where
  dig : headIs isD t = false
  e : headIs isE t = false
  point : t.head? ≠ some 46
theorem Stop.nil : Stop [] := ⟨rfl, rfl, by simp⟩
theorem Stop.comma (t : List UInt8) : Stop (44 :: t) := ⟨(show isD 44 = false by decide), (show isE 44 = false by decide), by simp⟩
theorem Stop.brack (t : List UInt8) : Stop (93 :: t) := ⟨(show isD 93 = false by decide), (show isE 93 = false by decide), by simp⟩
theorem expoR_stop {t : List UInt8} (h : Stop t) : expoR t = some (0, 0) := by rw [expoR, h.e]; rfl

/-- Digits of a natural: they begin with no 0, or are it. -/
theorem nat_lead {l t : List UInt8} (h : isNat l = true) (ht : headIs isD t = false) : ndig (l ++ t) = l.length ∧ leadN (l ++ t) = l.length ∧ l ≠ [] := by
  obtain ⟨h1, h2, h3, h4⟩ := isNat_parts h
  have hn := ndig_all h4 ht
  refine ⟨hn, ?_, h1⟩
  rw [leadN]
  split
  · rename_i h5
    rcases h3 with h3 | h3
    · cases l with
      | nil => exact absurd rfl h1
      | cons c l => simp at h5 h3; exact absurd h5 h3
    · rw [h3]; rfl
  · exact hn
end Go.Proofs.YtppapkpceejnkaaGreatDoor

namespace Go.Proofs.YtppapkpceejnkaaGreatDoor
open Go.Lib (decDigits nDigits)

def numL (x : Int) : List UInt8 := if x < 0 then 45 :: decDigits x.natAbs else decDigits x.natAbs
/-- The plain writing, without its sign. -/
def padL (l : List UInt8) (k : Nat) : List UInt8 := List.replicate (1 + k - l.length) 48 ++ l
def fmtL (l : List UInt8) (e : Int) : List UInt8 :=
  if e < -20 ∨ 20 < e then l ++ 101 :: numL e
  else if 0 ≤ e then l ++ List.replicate e.toNat 48
  else (padL l e.natAbs).take ((padL l e.natAbs).length - e.natAbs) ++ 46 :: (padL l e.natAbs).drop ((padL l e.natAbs).length - e.natAbs)
def sgL (n : Bool) (l : List UInt8) : List UInt8 := if n = true then 45 :: l else l

theorem app_data (a b : ByteArray) : (a ++ b).data.toList = a.data.toList ++ b.data.toList := by rw [ByteArray.data_append, Array.toList_append]
theorem numB_data (x : Int) : (numB x).data.toList = numL x := by
  rw [numB, numL]
  split
  · rw [app_data, decB_data]; rfl
  · exact decB_data _
theorem pad_data (s : ByteArray) (e : Int) (he : e < 0) : (zerB (1 - e - s.size).toNat ++ s).data.toList = padL s.data.toList e.natAbs := by
  rw [app_data, zerB_data, padL, show (1 - e - (s.size : Int)).toNat = 1 + e.natAbs - s.data.toList.length from by rw [← Lib.size_eq]; omega]
theorem fmtB_data (s : ByteArray) (e : Int) : (fmtB s e).data.toList = fmtL s.data.toList e := by
  rw [fmtB, fmtL]
  split
  · rw [app_data, app_data, numB_data, List.append_assoc]; rfl
  · split
    · rw [app_data, zerB_data]
    · rename_i h1 h2
      have hp := pad_data s e (by omega)
      have hs : (zerB (1 - e - s.size).toNat ++ s).size = (padL s.data.toList e.natAbs).length := by rw [Lib.size_eq, hp]
      rw [app_data, app_data, Lib.extract_data, Lib.extract_data, hp, hs, List.append_assoc, List.drop_zero, Nat.sub_zero]
      rw [show ((⟨#[46]⟩ : ByteArray).data.toList) = [46] from rfl, List.singleton_append]
      congr 2
      rw [List.take_of_length_le]
      rw [List.length_drop]
      omega
theorem sgnB_data (n : Bool) (s : ByteArray) : (sgnB n s).data.toList = sgL n s.data.toList := by
  rw [sgnB, sgL]
  split
  · rw [app_data]; rfl
  · rfl

/-- What is made of digits among zeros. -/
theorem dv_pad (p : Nat) (l : List UInt8) : dv (List.replicate p 48 ++ l) = dv l := by
  induction p with
  | zero => rfl
  | succ p ih => rw [List.replicate_succ, List.cons_append, dv_zero_cons, ih]
theorem all_rep (p : Nat) : (List.replicate p (48 : UInt8)).all isD = true := by
  rw [List.all_eq_true]
  intro x hx
  rw [(List.mem_replicate.1 hx).2]; decide
/-- A right decimal's digits, as a number. -/
theorem right_num {n : Bool} {l : List UInt8} {e : Int} (h : rightD n l e = true) (h0 : l ≠ [48]) : decDigits (dv l) = l ∧ dv l % 10 ≠ 0 ∧ nDigits (dv l) ≤ 100 ∧ l.head? ≠ some 48 := by
  obtain ⟨h1, h2, _, _⟩ := right_parts h
  obtain ⟨g1, g2, g3, g4⟩ := isNat_parts h1
  have g3' : l.head? ≠ some 48 := by
    rcases g3 with g | g
    · exact g
    · exact absurd g h0
  have hc := dec_canon g1 (.inl g3') g4
  have hr := rightD_more (n := n) (e := e) h1 h2 h0
  rw [h] at hr
  have hr2 := hr.symm
  simp only [Bool.and_eq_true] at hr2
  refine ⟨hc, ?_, ?_, g3'⟩
  · intro hz
    have h3 := dec_last (a := dv l)
    rw [hc, hz] at h3
    have h4 := hr2.2
    rw [h3] at h4
    exact absurd h4 (by decide)
  · have := congrArg List.length hc
    rw [Lib.decDigits_length] at this
    omega
theorem make_right {n : Bool} {l q : List UInt8} {e x : Int} {p z : Nat} (h : rightD n l e = true) (hq : q = List.replicate p 48 ++ l ++ List.replicate z 48) (hl : q.length ≤ 400) (hx : x = e - z) (hz : z ≤ 400) (hx1 : -1000 ≤ x) (hx2 : x ≤ 1000) :
    makeR n q x = some (n, dv l, e) := by
  obtain ⟨h1, h2, h3, h4⟩ := right_parts h
  obtain ⟨g1, g2, g3, g4⟩ := isNat_parts h1
  have hqd : dv q = dv l * 10 ^ z := by rw [hq, dv_zeros, dv_pad]
  have hqa : q.all isD = true := by rw [hq, List.all_append, List.all_append, all_rep, all_rep, g4]; rfl
  have hqn : q ≠ [] := by
    intro e
    have := congrArg List.length (hq.symm.trans e)
    simp only [List.length_append, List.length_nil] at this
    have : l.length = 0 := by omega
    exact g1 (List.eq_nil_of_length_eq_zero this)
  have hok : ¬ (q = [] ∨ 400 < q.length ∨ x < -1000 ∨ 1000 < x ∨ q.all isD = false) := by
    rintro (h | h | h | h | h)
    · exact hqn h
    · omega
    · omega
    · omega
    · rw [hqa] at h; cases h
  by_cases h0 : l = [48]
  · subst h0
    rw [rightD_zero] at h
    simp only [Bool.and_eq_true, decide_eq_true_eq, Bool.not_eq_true'] at h
    obtain ⟨rfl, rfl⟩ := h
    rw [makeR_zero hok (by rw [hqd, show dv [48] = 0 from by decide, Nat.zero_mul])]
    rfl
  · obtain ⟨k1, k2, k3, _⟩ := right_num h h0
    rw [makeR_more hok hqd k2 hz, if_pos ⟨k3, by omega, by omega⟩, show x + (z : Int) = e from by omega]

theorem lead_of {q t : List UInt8} (h1 : q ≠ []) (h2 : q.all isD = true) (h3 : q.head? ≠ some 48 ∨ q.length = 1) (ht : headIs isD t = false) : leadN (q ++ t) = q.length ∧ ndig (q ++ t) ≠ 0 := by
  have hn := ndig_all h2 ht
  refine ⟨?_, by rw [hn]; exact fun e => h1 (List.eq_nil_of_length_eq_zero e)⟩
  rw [leadN]
  split
  · rename_i h5
    rcases h3 with h3 | h3
    · cases q with
      | nil => exact absurd rfl h1
      | cons c l => simp at h5 h3; exact absurd h5 h3
    · exact h3.symm
  · exact hn

/-- What is read behind the sign. -/
def parseC (n : Bool) (r : List UInt8) : Option ((Bool × Nat × Int) × List UInt8) :=
  if ndig r = 0 then none
  else match expoR (r2L r) with
    | none => none
    | some (k, c) => match makeR n (allD r) (-(fracN (r1L r) : Int) + k) with
      | none => none
      | some d => some (d, (r2L r).drop c)
theorem parseR_eq (l : List UInt8) : parseR l = parseC (sgnL l) (offL l) := rfl
theorem parse_sg {n : Bool} {r : List UInt8} (h : headIs isD r = true) : parseR (sgL n r) = parseC n r := by
  rw [parseR_eq]
  cases n with
  | true => rfl
  | false =>
    cases r with
    | nil => cases h
    | cons c r =>
      have hc : ¬ c = 45 := by
        intro e
        subst e
        exact absurd (show isD 45 = true from h) (by decide)
      have hs : sgnL (sgL false (c :: r)) = false := by simp [sgL, sgnL, hc]
      rw [offL, hs]; rfl

theorem head_app {p : UInt8 → Bool} {a b : List UInt8} (h : a ≠ []) : headIs p (a ++ b) = headIs p a := by
  cases a with
  | nil => exact absurd rfl h
  | cons c a => rfl
theorem head_all {a : List UInt8} (h : a ≠ []) (ha : a.all isD = true) : headIs isD a = true := by
  cases a with
  | nil => exact absurd rfl h
  | cons c a => simp only [List.all_cons, Bool.and_eq_true] at ha; exact ha.1

/-- Digits, and nothing that goes on with them. -/
theorem parse_whole {n : Bool} {q t : List UInt8} {d : Bool × Nat × Int} (h1 : q ≠ []) (h2 : q.all isD = true) (h3 : q.head? ≠ some 48 ∨ q.length = 1) (ht : Stop t) (hm : makeR n q 0 = some d) : parseC n (q ++ t) = some (d, t) := by
  obtain ⟨k1, k2⟩ := lead_of h1 h2 h3 ht.dig
  have e1 : r1L (q ++ t) = t := by rw [r1L, k1, List.drop_left]
  have e2 : fracN (r1L (q ++ t)) = 0 := by rw [e1, fracN, if_neg ht.point]
  have e3 : r2L (q ++ t) = t := by rw [r2L, if_pos e2, e1]
  have e4 : allD (q ++ t) = q := by rw [allD, e2, k1, List.take_left, List.take_zero, List.append_nil]
  rw [parseC, if_neg k2, e3, expoR_stop ht, e4, e2]
  simp only [Int.ofNat_zero, Int.neg_zero, Int.add_zero, List.drop_zero]
  rw [hm]

/-- Digits, a point, digits, and nothing that goes on with them. -/
theorem parse_point {n : Bool} {q f t : List UInt8} {d : Bool × Nat × Int} (h1 : q ≠ []) (h2 : q.all isD = true) (h3 : q.head? ≠ some 48 ∨ q.length = 1) (f1 : f ≠ []) (f2 : f.all isD = true) (ht : Stop t)
    (hm : makeR n (q ++ f) (-(f.length : Int)) = some d) : parseC n (q ++ 46 :: (f ++ t)) = some (d, t) := by
  obtain ⟨k1, k2⟩ := lead_of (t := 46 :: (f ++ t)) h1 h2 h3 (show isD 46 = false by decide)
  have e1 : r1L (q ++ 46 :: (f ++ t)) = 46 :: (f ++ t) := by rw [r1L, k1, List.drop_left]
  have e2 : fracN (r1L (q ++ 46 :: (f ++ t))) = f.length := by rw [e1, fracN, if_pos (show (46 :: (f ++ t)).head? = some 46 from rfl), List.tail_cons, ndig_all f2 ht.dig]
  have hf : f.length ≠ 0 := fun e => f1 (List.eq_nil_of_length_eq_zero e)
  have e3 : r2L (q ++ 46 :: (f ++ t)) = t := by
    rw [r2L, e2, if_neg hf, e1, Nat.add_comm, List.drop_succ_cons, List.drop_left]
  have e4 : allD (q ++ 46 :: (f ++ t)) = q ++ f := by rw [allD, e2, k1, List.take_left, e1, List.tail_cons, List.take_left]
  rw [parseC, if_neg k2, e3, expoR_stop ht, e4, e2]
  simp only [Int.add_zero, List.drop_zero]
  rw [hm]

/-- An exponent as it is written. -/
theorem expo_num {b : UInt8} (hb : isE b = true) (x : Int) (h1 : -9999 ≤ x) (h2 : x ≤ 9999) {t : List UInt8} (ht : Stop t) : ∃ c, expoR (b :: (numL x ++ t)) = some (x, c) ∧ (b :: (numL x ++ t)).drop c = t := by
  have hd : nDigits x.natAbs ≤ 4 := nDigits_le (by decide) (by omega)
  have hp := Lib.nDigits_pos x.natAbs
  have hall : (decDigits x.natAbs).all isD = true := all_dec _
  have hnd : ndig (decDigits x.natAbs ++ t) = nDigits x.natAbs := by rw [ndig_all hall ht.dig, Lib.decDigits_length]
  have htk : (decDigits x.natAbs ++ t).take (nDigits x.natAbs) = decDigits x.natAbs := by
    rw [← Lib.decDigits_length, List.take_left]
  by_cases hx : x < 0
  · have e0 : numL x = 45 :: decDigits x.natAbs := by rw [numL, if_pos hx]
    have ea : atN (b :: (numL x ++ t)) = 2 := by rw [atN, e0]; rfl
    have ed : (b :: (numL x ++ t)).drop 2 = decDigits x.natAbs ++ t := by rw [e0]; rfl
    refine ⟨2 + nDigits x.natAbs, ?_, ?_⟩
    · rw [expoR, if_pos (show headIs isE (b :: (numL x ++ t)) = true from hb), ea, ed, hnd, if_neg (by omega), if_neg (by omega), htk, dv_dec, if_pos (by rw [e0]; rfl)]
      congr 2
      omega
    · rw [← List.drop_drop, ed, ← Lib.decDigits_length, List.drop_left]
  · have e0 : numL x = decDigits x.natAbs := by rw [numL, if_neg hx]
    have hh : headIs isD (decDigits x.natAbs) = true := head_all (dec_ne _) hall
    obtain ⟨c, r, hc⟩ : ∃ c r, decDigits x.natAbs = c :: r := by
      cases e : decDigits x.natAbs with
      | nil => exact absurd e (dec_ne _)
      | cons c r => exact ⟨c, r, rfl⟩
    rw [hc] at hh
    have hcd : isD c = true := hh
    have hs : isS c = false := by
      rw [Bool.eq_false_iff]
      intro e
      simp only [isS, Bool.or_eq_true, beq_iff_eq] at e
      rcases e with rfl | rfl
      · exact absurd hcd (by decide)
      · exact absurd hcd (by decide)
    have hm : ¬ c = 45 := by rintro rfl; exact absurd hcd (by decide)
    have ea : atN (b :: (numL x ++ t)) = 1 := by
      rw [atN, e0, hc, if_neg]
      show ¬ isS c = true
      rw [hs]; decide
    have ed : (b :: (numL x ++ t)).drop 1 = decDigits x.natAbs ++ t := by rw [e0]; rfl
    refine ⟨1 + nDigits x.natAbs, ?_, ?_⟩
    · rw [expoR, if_pos (show headIs isE (b :: (numL x ++ t)) = true from hb), ea, ed, hnd, if_neg (by omega), if_neg (by omega), htk, dv_dec, if_neg (by
        rw [e0, hc]
        show ¬ some c = some 45
        simpa using hm)]
      congr 2
      omega
    · rw [← List.drop_drop, ed, ← Lib.decDigits_length, List.drop_left]

theorem not_dig_e {b : UInt8} (hb : isE b = true) : isD b = false ∧ b ≠ 46 := by
  simp only [isE, Bool.or_eq_true, beq_iff_eq] at hb
  rcases hb with rfl | rfl
  · exact ⟨by decide, by decide⟩
  · exact ⟨by decide, by decide⟩
/-- Digits, an exponent, and nothing that goes on with them. -/
theorem parse_exp {n : Bool} {q t : List UInt8} {d : Bool × Nat × Int} {b : UInt8} {x : Int} (h1 : q ≠ []) (h2 : q.all isD = true) (h3 : q.head? ≠ some 48 ∨ q.length = 1) (hb : isE b = true) (hx1 : -9999 ≤ x) (hx2 : x ≤ 9999) (ht : Stop t) (hm : makeR n q x = some d) :
    parseC n (q ++ b :: (numL x ++ t)) = some (d, t) := by
  obtain ⟨hbd, hbp⟩ := not_dig_e hb
  obtain ⟨k1, k2⟩ := lead_of (t := b :: (numL x ++ t)) h1 h2 h3 hbd
  have e1 : r1L (q ++ b :: (numL x ++ t)) = b :: (numL x ++ t) := by rw [r1L, k1, List.drop_left]
  have e2 : fracN (r1L (q ++ b :: (numL x ++ t))) = 0 := by
    rw [e1, fracN, if_neg]
    show ¬ some b = some 46
    simpa using hbp
  have e3 : r2L (q ++ b :: (numL x ++ t)) = b :: (numL x ++ t) := by rw [r2L, if_pos e2, e1]
  have e4 : allD (q ++ b :: (numL x ++ t)) = q := by rw [allD, e2, k1, List.take_left, List.take_zero, List.append_nil]
  obtain ⟨c, c1, c2⟩ := expo_num hb x hx1 hx2 ht
  rw [parseC, if_neg k2, e3, c1, e4, e2]
  simp only [Int.ofNat_zero, Int.neg_zero, Int.zero_add]
  rw [hm, c2]
/-- Digits, a point, digits, an exponent, and nothing that goes on with them. -/
theorem parse_both {n : Bool} {q f t : List UInt8} {d : Bool × Nat × Int} {b : UInt8} {x : Int} (h1 : q ≠ []) (h2 : q.all isD = true) (h3 : q.head? ≠ some 48 ∨ q.length = 1) (f1 : f ≠ []) (f2 : f.all isD = true) (hb : isE b = true) (hx1 : -9999 ≤ x) (hx2 : x ≤ 9999) (ht : Stop t)
    (hm : makeR n (q ++ f) (-(f.length : Int) + x) = some d) : parseC n (q ++ 46 :: (f ++ b :: (numL x ++ t))) = some (d, t) := by
  obtain ⟨hbd, hbp⟩ := not_dig_e hb
  obtain ⟨T, hT⟩ : ∃ T, T = b :: (numL x ++ t) := ⟨_, rfl⟩
  rw [← hT]
  have hTd : headIs isD T = false := by rw [hT]; exact hbd
  obtain ⟨k1, k2⟩ := lead_of (t := 46 :: (f ++ T)) h1 h2 h3 (show isD 46 = false by decide)
  have e1 : r1L (q ++ 46 :: (f ++ T)) = 46 :: (f ++ T) := by rw [r1L, k1, List.drop_left]
  have e2 : fracN (r1L (q ++ 46 :: (f ++ T))) = f.length := by rw [e1, fracN, if_pos (show (46 :: (f ++ T)).head? = some 46 from rfl), List.tail_cons, ndig_all f2 hTd]
  have hf : f.length ≠ 0 := fun e => f1 (List.eq_nil_of_length_eq_zero e)
  have e3 : r2L (q ++ 46 :: (f ++ T)) = T := by
    rw [r2L, e2, if_neg hf, e1, Nat.add_comm, List.drop_succ_cons, List.drop_left]
  have e4 : allD (q ++ 46 :: (f ++ T)) = q ++ f := by rw [allD, e2, k1, List.take_left, e1, List.tail_cons, List.take_left]
  obtain ⟨c, c1, c2⟩ := expo_num hb x hx1 hx2 ht
  rw [← hT] at c1 c2
  rw [parseC, if_neg k2, e3, c1, e4, e2]
  simp only
  rw [hm, c2]

theorem pad_length (l : List UInt8) (k : Nat) : k < (padL l k).length := by
  rw [padL, List.length_append, List.length_replicate]; omega

/-- Plain writings are read as what they are of. -/
theorem parse_fmt {n : Bool} {l t : List UInt8} {e : Int} (h : rightD n l e = true) (ht : Stop t) : parseR (sgL n (fmtL l e) ++ t) = some ((n, dv l, e), t) := by
  obtain ⟨h1, h2, h3, h4⟩ := right_parts h
  obtain ⟨g1, g2, g3, g4⟩ := isNat_parts h1
  have g3' : l.head? ≠ some 48 ∨ l.length = 1 := by
    rcases g3 with g | g
    · exact .inl g
    · exact .inr (by rw [g]; rfl)
  have hsg : sgL n (fmtL l e) ++ t = sgL n (fmtL l e ++ t) := by cases n <;> rfl
  rw [hsg]
  by_cases he : e < -20 ∨ 20 < e
  · have ef : fmtL l e ++ t = l ++ 101 :: (numL e ++ t) := by rw [fmtL, if_pos he]; simp
    rw [ef, parse_sg (by rw [head_app g1]; exact head_all g1 g4)]
    exact parse_exp g1 g4 g3' (by decide) (by omega) (by omega) ht (make_right (p := 0) (z := 0) h (by simp) (by omega) (by omega) (by omega) (by omega) (by omega))
  · by_cases he0 : 0 ≤ e
    · have ef : fmtL l e = l ++ List.replicate e.toNat 48 := by rw [fmtL, if_neg he, if_pos he0]
      have hq : isNat (l ++ List.replicate e.toNat 48) = true := nat_zeros (n := n) (by rw [show ((e.toNat : Nat) : Int) = e from by omega]; exact h) (by omega)
      obtain ⟨q1, q2, q3, q4⟩ := isNat_parts hq
      have q3' : (l ++ List.replicate e.toNat 48).head? ≠ some 48 ∨ (l ++ List.replicate e.toNat 48).length = 1 := by
        rcases q3 with g | g
        · exact .inl g
        · exact .inr (by rw [g]; rfl)
      rw [ef, parse_sg (by rw [head_app q1]; exact head_all q1 q4)]
      exact parse_whole q1 q4 q3' ht (make_right (p := 0) (z := e.toNat) h (by simp) q2 (by omega) (by omega) (by omega) (by omega))
    · obtain ⟨k, hk⟩ : ∃ k, k = e.natAbs := ⟨_, rfl⟩
      have h0 : l ≠ [48] := by
        rintro rfl
        rw [rightD_zero] at h
        simp only [Bool.and_eq_true, decide_eq_true_eq] at h
        omega
      obtain ⟨_, _, _, hhd⟩ := right_num h h0
      have hlen := pad_length l k
      have hpa : (padL l k).all isD = true := by rw [padL, List.all_append, all_rep, g4]; rfl
      obtain ⟨a, ha⟩ : ∃ a, a = (padL l k).take ((padL l k).length - k) := ⟨_, rfl⟩
      obtain ⟨f, hf⟩ : ∃ f, f = (padL l k).drop ((padL l k).length - k) := ⟨_, rfl⟩
      have haf : a ++ f = padL l k := by rw [ha, hf, List.take_append_drop]
      have hfl : f.length = k := by rw [hf, List.length_drop]; omega
      have hal : a.length = (padL l k).length - k := by rw [ha, List.length_take]; omega
      have hall : a.all isD = true ∧ f.all isD = true := by
        rw [← haf, List.all_append, Bool.and_eq_true] at hpa; exact hpa
      have ha0 : a ≠ [] := by intro e; rw [e, List.length_nil] at hal; omega
      have hf0 : f ≠ [] := by intro e; rw [e, List.length_nil] at hfl; omega
      have ha3 : a.head? ≠ some 48 ∨ a.length = 1 := by
        by_cases hp : 1 + k ≤ l.length
        · left
          have e1 : padL l k = l := by rw [padL, show 1 + k - l.length = 0 from by omega]; rfl
          have e2 : a.head? = l.head? := by
            rw [← e1, ← haf]
            cases a with
            | nil => exact absurd rfl ha0
            | cons c a => rfl
          rw [e2]; exact hhd
        · right
          rw [hal, padL, List.length_append, List.length_replicate]
          omega
      have ef : fmtL l e ++ t = a ++ 46 :: (f ++ t) := by
        rw [fmtL, if_neg he, if_neg he0, ← hk, ← ha, ← hf]; simp
      rw [ef, parse_sg (by rw [head_app ha0]; exact head_all ha0 hall.1)]
      refine parse_point ha0 hall.1 ha3 hf0 hall.2 ht ?_
      rw [haf, hfl]
      refine make_right (p := 1 + k - l.length) (z := 0) h (by rw [padL]; simp) ?_ (by omega) (by omega) (by omega) (by omega)
      rw [padL, List.length_append, List.length_replicate]
      omega
end Go.Proofs.YtppapkpceejnkaaGreatDoor

namespace Go.Proofs.YtppapkpceejnkaaGreatDoor
open Go.Lib (decDigits nDigits)

/-- A number, and the zeros at its end. -/
theorem strip : ∀ m : Nat, m ≠ 0 → ∃ a k, m = a * 10 ^ k ∧ a % 10 ≠ 0 := by
  intro m
  induction m using Nat.strongRecOn with
  | _ m ih =>
    intro h
    by_cases hz : m % 10 = 0
    · obtain ⟨a, k, h1, h2⟩ := ih (m / 10) (by omega) (by omega)
      refine ⟨a, k + 1, ?_, h2⟩
      rw [Nat.pow_succ, ← Nat.mul_assoc, ← h1]; omega
    · exact ⟨m, 0, by simp, hz⟩
theorem strip_le {m a k : Nat} (h1 : m = a * 10 ^ k) : a ≤ m := by
  rw [h1]; exact Nat.le_mul_of_pos_right a (Nat.pow_pos (by decide))

/-- What is made is right. -/
theorem make_is_right {n : Bool} {l : List UInt8} {e : Int} {d : Bool × Nat × Int} (h : makeR n l e = some d) : rightD d.1 (decDigits d.2.1) d.2.2 = true ∧ d.2.1 < lim := by
  by_cases hb : l = [] ∨ 400 < l.length ∨ e < -1000 ∨ 1000 < e ∨ l.all isD = false
  · rw [makeR_bad hb] at h; cases h
  · have hne : l ≠ [] := fun e => hb (.inl e)
    have hal : l.all isD = true := by
      rw [← Bool.not_eq_false]; exact fun e => hb (.inr (.inr (.inr (.inr e))))
    have hll : l.length ≤ 400 := by
      rcases Nat.lt_or_ge 400 l.length with h | h
      · exact absurd (.inr (.inl h)) hb
      · exact h
    have hlm := lim_dv hll hal hne
    by_cases h0 : dv l = 0
    · rw [makeR_zero hb h0] at h
      cases h
      refine ⟨?_, Nat.lt_of_le_of_lt (Nat.zero_le _) hlm⟩
      rw [show decDigits 0 = [48] from by rw [Lib.decDigits_one (by omega)]; rfl, rightD_zero]; rfl
    · obtain ⟨a, k, h1, h2⟩ := strip _ h0
      have hk : k ≤ 400 := pow_nd ((lim_iff _).2 hlm) h1 (by omega)
      have hal2 : a < lim := Nat.lt_of_le_of_lt (strip_le h1) hlm
      rw [makeR_more hb h1 h2 hk] at h
      split at h
      · rename_i hc
        cases h
        refine ⟨?_, hal2⟩
        rw [rightD_dec n h2 hal2]
        simp only [Bool.and_eq_true, decide_eq_true_eq]
        exact hc
      · cases h

theorem parse_right {l r : List UInt8} {d : Bool × Nat × Int} (h : parseR l = some (d, r)) : rightD d.1 (decDigits d.2.1) d.2.2 = true ∧ d.2.1 < lim := by
  rw [parseR_eq, parseC] at h
  split at h
  · cases h
  · split at h
    · cases h
    · split at h
      · cases h
      · rename_i hm
        cases h
        exact make_is_right hm
/-- What was read is written, and read again. -/
theorem parse_back {l r : List UInt8} {d : Bool × Nat × Int} (h : parseR l = some (d, r)) : parseR (sgL d.1 (fmtL (decDigits d.2.1) d.2.2)) = some (d, []) := by
  have := parse_fmt (parse_right h).1 (t := []) Stop.nil
  rw [List.append_nil, dv_dec] at this
  exact this

theorem dec_zeros {a k : Nat} (ha : a % 10 ≠ 0) : decDigits a ++ List.replicate k 48 = decDigits (a * 10 ^ k) := by
  have hne : decDigits a ++ List.replicate k 48 ≠ [] := by
    intro e
    exact dec_ne a (List.append_eq_nil_iff.1 e).1
  have hal : (decDigits a ++ List.replicate k 48).all isD = true := by rw [List.all_append, all_dec, all_rep]; rfl
  have hv : dv (decDigits a ++ List.replicate k 48) = a * 10 ^ k := by rw [dv_zeros, dv_dec]
  rw [← hv]
  refine (dec_canon hne ?_ hal).symm
  left
  intro e
  have hh : (decDigits a).head? = some 48 := by
    cases h : decDigits a with
    | nil => exact absurd h (dec_ne a)
    | cons c r => rw [h] at e; exact e
  obtain ⟨r, hr⟩ : ∃ r, decDigits a = 48 :: r := by
    cases h : decDigits a with
    | nil => rw [h] at hh; cases hh
    | cons c r => rw [h] at hh; simp at hh; subst hh; exact ⟨r, rfl⟩
  have h1 := dv_dec a
  have h2 : dv r < 10 ^ r.length := dv_lt r (by have := all_dec a; rw [hr, List.all_cons, Bool.and_eq_true] at this; exact this.2)
  rw [hr, dv_zero_cons] at h1
  have h3 : nDigits a = r.length + 1 := by rw [← Lib.decDigits_length, hr]; rfl
  rcases Nat.eq_zero_or_pos r.length with h4 | h4
  · have : r = [] := List.eq_nil_of_length_eq_zero h4
    subst this
    have : a = 0 := by rw [← h1]; rfl
    omega
  · have := nDigits_le h4 (by rw [h1] at h2; exact h2)
    omega

/-- Whole numbers. -/
theorem whole {n : Bool} {k : Nat} (hk : k < 18446744073709551616) : ∃ (m : Bool) (a : Nat) (e : Int), makeR n (decDigits k) 0 = some (m, a, e) ∧ m = (n && decide (0 < k)) ∧ toI m (decDigits a) e = some (m, k) ∧ rightD m (decDigits a) e = true ∧ 0 ≤ e ∧ e ≤ 20 ∧ fmtL (decDigits a) e = decDigits k := by
  have hnd : nDigits k ≤ 20 := nDigits_le (by decide) (by omega)
  have hok : ¬ (decDigits k = [] ∨ 400 < (decDigits k).length ∨ (0 : Int) < -1000 ∨ 1000 < (0 : Int) ∨ (decDigits k).all isD = false) := by
    rintro (h | h | h | h | h)
    · exact dec_ne k h
    · rw [Lib.decDigits_length] at h; omega
    · omega
    · omega
    · rw [all_dec] at h; cases h
  by_cases h0 : k = 0
  · subst h0
    have hd : decDigits 0 = [48] := by rw [Lib.decDigits_one (by omega)]; rfl
    have hr : rightD false [48] 0 = true := by rw [rightD_zero]; rfl
    refine ⟨false, 0, 0, makeR_zero hok (dv_dec 0), by simp, ?_, by rw [hd]; exact hr, by omega, by omega, ?_⟩
    · rw [hd, toI, if_pos ⟨hr, by omega, by omega, by decide⟩]; rfl
    · rw [hd]; rfl
  · obtain ⟨a, z, h1, h2⟩ := strip k h0
    have hz : z ≤ 19 := by
      have ha : 1 ≤ a := by omega
      have h3 : 1 * 10 ^ z ≤ a * 10 ^ z := Nat.mul_le_mul_right _ ha
      have h4 : 10 ^ z < 10 ^ 20 := by
        have : (18446744073709551616 : Nat) ≤ 10 ^ 20 := by decide
        omega
      have := (Nat.pow_lt_pow_iff_right (show 1 < 10 by decide)).1 h4
      omega
    have hal : a ≤ k := by rw [h1]; exact Nat.le_mul_of_pos_right a (Nat.pow_pos (by decide))
    have hna : nDigits a ≤ 20 := nDigits_le (by decide) (by omega)
    have hlim : a < lim := (lim_iff a).1 (by omega)
    have hm : makeR n (decDigits k) 0 = some (n, a, (z : Int)) := by
      rw [makeR_more hok ((dv_dec k).trans h1) h2 (by omega), if_pos ⟨by omega, by omega, by omega⟩, Int.zero_add]
    have hr : rightD n (decDigits a) (z : Int) = true := by
      rw [rightD_dec n h2 hlim]
      simp only [Bool.and_eq_true, decide_eq_true_eq]
      omega
    refine ⟨n, a, z, hm, by simp; intro _; omega, ?_, hr, by omega, by omega, ?_⟩
    · rw [toI, if_pos ⟨hr, by omega, by omega, by rw [dv_dec, Int.toNat_natCast, ← h1]; exact hk⟩, dv_dec, Int.toNat_natCast, ← h1]
    · rw [fmtL, if_neg (by omega), if_pos (by omega), Int.toNat_natCast, dec_zeros h2, ← h1]

/-- A point that is moved. -/
theorem parse_moved {n : Bool} {l : List UInt8} {e : Int} {at_ : Nat} (h : rightD n l e = true) (h1 : 1 ≤ at_) (h2 : at_ < l.length) :
    parseR (sgL n (l.take at_ ++ 46 :: (l.drop at_ ++ 69 :: numL (e + (l.length - at_ : Nat))))) = some ((n, dv l, e), []) := by
  obtain ⟨g1, g2, g3, g4⟩ := right_parts h
  obtain ⟨k1, k2, k3, k4⟩ := isNat_parts g1
  have h0 : l ≠ [48] := by rintro rfl; simp at h2; omega
  obtain ⟨_, _, _, hhd⟩ := right_num h h0
  have hta : l.take at_ ≠ [] := by
    intro e
    have := congrArg List.length e
    rw [List.length_take, List.length_nil] at this
    omega
  have hda : l.drop at_ ≠ [] := by
    intro e
    have := congrArg List.length e
    rw [List.length_drop, List.length_nil] at this
    omega
  have hall : (l.take at_).all isD = true ∧ (l.drop at_).all isD = true := by
    rw [← List.take_append_drop at_ l, List.all_append, Bool.and_eq_true] at k4; exact k4
  have hh : (l.take at_).head? ≠ some 48 := by
    cases l with
    | nil => exact absurd rfl k1
    | cons c l =>
      obtain ⟨m, rfl⟩ : ∃ m, at_ = m + 1 := ⟨at_ - 1, by omega⟩
      exact hhd
  rw [parse_sg (by rw [head_app hta]; exact head_all hta hall.1)]
  have := parse_both (n := n) (t := []) (b := 69) (x := e + (l.length - at_ : Nat)) hta hall.1 (.inl hh) hda hall.2 (by decide) (by omega) (by omega) Stop.nil (d := (n, dv l, e)) (by
    rw [List.take_append_drop, List.length_drop]
    exact make_right (p := 0) (z := 0) h (by simp) k2 (by omega) (by omega) (by omega) (by omega))
  rw [List.append_nil] at this
  exact this
/-- A point that stays where it is. -/
theorem parse_still {n : Bool} {l : List UInt8} {e : Int} (h : rightD n l e = true) : parseR (sgL n (l ++ 69 :: numL e)) = some ((n, dv l, e), []) := by
  obtain ⟨g1, g2, g3, g4⟩ := right_parts h
  obtain ⟨k1, k2, k3, k4⟩ := isNat_parts g1
  have k3' : l.head? ≠ some 48 ∨ l.length = 1 := by
    rcases k3 with g | g
    · exact .inl g
    · exact .inr (by rw [g]; rfl)
  rw [parse_sg (by rw [head_app k1]; exact head_all k1 k4)]
  have := parse_exp (n := n) (t := []) (b := 69) (x := e) k1 k4 k3' (by decide) (by omega) (by omega) Stop.nil (d := (n, dv l, e)) (make_right (p := 0) (z := 0) h (by simp) k2 (by omega) (by omega) (by omega) (by omega))
  rw [List.append_nil] at this
  exact this
/-- The sign counts only at 0. -/
theorem right_sign {l : List UInt8} {e : Int} (h : l ≠ [48]) : rightD true l e = rightD false l e := by
  cases hn : isNat l with
  | false => rw [rightD_nat hn, rightD_nat hn]
  | true =>
    by_cases hl : 100 < l.length
    · rw [rightD_long hl, rightD_long hl]
    · rw [rightD_more hn (by omega) h, rightD_more hn (by omega) h]
theorem right_neg0 {e : Int} : rightD true [48] e = false := by rw [rightD_zero]; simp
end Go.Proofs.YtppapkpceejnkaaGreatDoor

namespace Go.Proofs.YtppapkpceejnkaaGreatDoor
open Go.RowKit
open Go.Lib (decDigits nDigits)

/-- What Parse tells. -/
def ParRes (s : ByteArray) : Option ((Bool × Nat × Int) × List UInt8) → Value
  | some ((n, a, e), r) => .tuple #[decV n (decB a) e, .string ⟨r.toArray⟩, .int .i64 0]
  | none => .tuple #[decV false noB 0, .string s, .int .i64 40]
def ParPost (s : ByteArray) (w : World) (o : Ending) (w' : World) : Prop := o = .returned (ParRes s (parseR s.data.toList)) ∧ Below w.heap.size w w'
theorem par_no {s : ByteArray} {w w' : World} (h : parseR s.data.toList = none) (hb : Below w.heap.size w w') : ParPost s w (.returned (.tuple #[.agg #[.bool false, .string ⟨#[]⟩, .int .i64 0], .string s, .int .i64 40])) w' := ⟨by rw [h]; rfl, hb⟩

theorem head_byte {s : ByteArray} (h : 0 < s.size) : s.data.toList.head? = some (byteAt s 0) := by
  rw [byteAt_list, List.head?_eq_getElem?]
  have hl : 0 < s.data.toList.length := by rw [← Lib.size_eq]; exact h
  rw [List.getElem?_eq_getElem hl]; rfl
theorem nil_of {s : ByteArray} (h : s.size = 0) : s.data.toList = [] := List.eq_nil_of_length_eq_zero (by rw [← Lib.size_eq]; exact h)
theorem sgn_at {s : ByteArray} (h : 0 < s.size) : sgnL s.data.toList = (((byteAt s 0).toNat : Int) == 45) := by
  rw [sgnL, head_byte h]
  by_cases hc : (byteAt s 0).toNat = 45
  · have : byteAt s 0 = 45 := UInt8.toNat_inj.1 hc
    rw [this]; rfl
  · have h2 : ¬ byteAt s 0 = 45 := fun e => hc (by rw [e]; rfl)
    rw [show ((((byteAt s 0).toNat : Int)) == 45) = false from by simp; omega]
    simpa using h2

theorem head_is {p : UInt8 → Bool} {s : ByteArray} (h : 0 < s.size) : headIs p s.data.toList = p (byteAt s 0) := by
  have hh := head_byte h
  cases e : s.data.toList with
  | nil => rw [e] at hh; cases hh
  | cons c r => rw [e] at hh; rw [← Option.some.inj hh]; rfl
theorem tail_is {p : UInt8 → Bool} {s : ByteArray} (h : 1 < s.size) : headIs p s.data.toList.tail = p (byteAt s 1) ∧ s.data.toList.tail.head? = some (byteAt s 1) := by
  have hl : 1 < s.data.toList.length := by rw [← Lib.size_eq]; exact h
  have hb : s.data.toList[1]? = some (byteAt s 1) := by rw [byteAt_list, List.getElem?_eq_getElem hl]; rfl
  cases e : s.data.toList with
  | nil => rw [e] at hl; simp at hl
  | cons c r =>
    cases e2 : r with
    | nil => rw [e, e2] at hl; simp at hl
    | cons d r2 =>
      rw [e, e2] at hb
      simp at hb
      subst hb
      exact ⟨rfl, rfl⟩
theorem tail_no {s : ByteArray} (h : ¬ 1 < s.size) : s.data.toList.tail = [] := List.eq_nil_of_length_eq_zero (by rw [List.length_tail, ← Lib.size_eq]; omega)
theorem isE_at (c : UInt8) : isE c = ((c.toNat : Int) == 101 || (c.toNat : Int) == 69) := by
  have h (k : UInt8) (m : Nat) (hm : k.toNat = m) : (c == k) = ((c.toNat : Int) == (m : Int)) := by
    by_cases e : c = k
    · subst e; rw [hm]; simp
    · have : ¬ c.toNat = m := fun e2 => e (UInt8.toNat_inj.1 (by rw [e2, hm]))
      rw [show (c == k) = false from by simpa using e, show ((c.toNat : Int) == (m : Int)) = false from by simp; omega]
  rw [isE, h 101 101 rfl, h 69 69 rfl]; rfl
theorem isS_at (c : UInt8) : isS c = ((c.toNat : Int) == 43 || (c.toNat : Int) == 45) := by
  have h (k : UInt8) (m : Nat) (hm : k.toNat = m) : (c == k) = ((c.toNat : Int) == (m : Int)) := by
    by_cases e : c = k
    · subst e; rw [hm]; simp
    · have : ¬ c.toNat = m := fun e2 => e (UInt8.toNat_inj.1 (by rw [e2, hm]))
      rw [show (c == k) = false from by simpa using e, show ((c.toNat : Int) == (m : Int)) = false from by simp; omega]
  rw [isS, h 43 43 rfl, h 45 45 rfl]; rfl
theorem ndig_at : ∀ (l : List UInt8) (j : Nat), j < ndig l → ∃ c, l[j]? = some c ∧ isD c = true
  | [], j, h => by simp [ndig] at h
  | c :: l, j, h => by
    by_cases hc : isD c = true
    · cases j with
      | zero => exact ⟨c, rfl, hc⟩
      | succ j =>
        have : j < ndig l := by
          rw [ndig, List.takeWhile_cons, hc] at h
          simp only [if_true, List.length_cons] at h
          exact Nat.lt_of_succ_lt_succ h
        obtain ⟨d, h1, h2⟩ := ndig_at l j this
        exact ⟨d, by simpa using h1, h2⟩
    · rw [ndig, List.takeWhile_cons, if_neg hc] at h; simp at h
theorem ext_all (s : ByteArray) : s.extract 0 s.size = s := str_inj (by rw [Lib.extract_data, List.drop_zero, Nat.sub_zero, List.take_of_length_le (by rw [← Lib.size_eq]; exact Nat.le_refl _)])
/-- What is made, and what is behind. -/
def withR (r : List UInt8) : Option (Bool × Nat × Int) → Option ((Bool × Nat × Int) × List UInt8)
  | none => none
  | some d => some (d, r)
theorem parse_with {l : List UInt8} {k : Int} {c : Nat} (h1 : ndig (offL l) ≠ 0) (h2 : expoR (r2L (offL l)) = some (k, c)) : parseR l = withR ((r2L (offL l)).drop c) (makeR (sgnL l) (allD (offL l)) (-(fracN (r1L (offL l)) : Int) + k)) := by
  rw [parseR_eq, parseC, if_neg h1, h2]
  simp only
  cases makeR (sgnL l) (allD (offL l)) (-(fracN (r1L (offL l)) : Int) + k) with
  | none => rfl
  | some d => rfl
/-- What lies behind the exponent. -/
def ExpRel (R2 : ByteArray) (f : Nat) (r x : Value) : Prop := ∃ (k : Int) (c : Nat), expoR R2.data.toList = some (k, c) ∧ r = .string (R2.extract c R2.size) ∧ x = .int .i64 (-(f : Int) + k)

end Go.Proofs.YtppapkpceejnkaaGreatDoor

namespace Go.Proofs.YtppapkpceejnkaaGreatDoor
open Go.RowKit
open Go.Lib (decDigits nDigits)

def dN : Option (Bool × Nat × Int) → Bool
  | some (n, _, _) => n
  | none => false
def dS : Option (Bool × Nat × Int) → ByteArray
  | some (_, a, _) => decB a
  | none => noB
def dX : Option (Bool × Nat × Int) → Int
  | some (_, _, e) => e
  | none => 0
theorem DecVal_parts (r : Option (Bool × Nat × Int)) : DecVal r = .agg #[.bool (dN r), .string (dS r), .int .i64 (dX r)] := by rcases r with _ | ⟨n, a, e⟩ <;> rfl
def pD (p : Option ((Bool × Nat × Int) × List UInt8)) : Option (Bool × Nat × Int) := p.map (·.1)
def pR (s : ByteArray) : Option ((Bool × Nat × Int) × List UInt8) → ByteArray
  | some (_, r) => ⟨r.toArray⟩
  | none => s
theorem ParRes_parts (s : ByteArray) (p : Option ((Bool × Nat × Int) × List UInt8)) : ParRes s p = .tuple #[.agg #[.bool (dN (pD p)), .string (dS (pD p)), .int .i64 (dX (pD p))], .string (pR s p), .int .i64 (decE (pD p))] := by
  rcases p with _ | ⟨⟨n, a, e⟩, r⟩ <;> rfl
def fS (n : Bool) (s : ByteArray) (e : Int) : ByteArray := if rightD n s.data.toList e = true then sgnB n (fmtB s e) else noB
def fE (n : Bool) (s : ByteArray) (e : Int) : Int := if rightD n s.data.toList e = true then 0 else 40
def tN : Option (Bool × Nat) → Bool
  | some (n, _) => n
  | none => false
def tK : Option (Bool × Nat) → Nat
  | some (_, k) => k
  | none => 0
theorem ToRes_parts (r : Option (Bool × Nat)) : ToRes r = .tuple #[.bool (tN r), .int .u64 (tK r : Int), .bool r.isSome] := by rcases r with _ | ⟨n, k⟩ <;> rfl

/-- What a call that makes a decimal tells. -/
def DecP (R : Option (Bool × Nat × Int)) (w : World) (o : Ending) (w' : World) : Prop := o = .returned (.tuple #[.agg #[.bool (dN R), .string (dS R), .int .i64 (dX R)], .int .i64 (decE R)]) ∧ Below w.heap.size w w'
def ParP (s : ByteArray) (p : Option ((Bool × Nat × Int) × List UInt8)) (w : World) (o : Ending) (w' : World) : Prop := o = .returned (.tuple #[.agg #[.bool (dN (pD p)), .string (dS (pD p)), .int .i64 (dX (pD p))], .string (pR s p), .int .i64 (decE (pD p))]) ∧ Below w.heap.size w w'
def FmtP (n : Bool) (s : ByteArray) (e : Int) (w : World) (o : Ending) (w' : World) : Prop := o = .returned (.tuple #[.string (fS n s e), .int .i64 (fE n s e)]) ∧ Below w.heap.size w w'
def ValP (R : Option (Bool × Nat × Int)) (w : World) (o : Ending) (w' : World) : Prop := o = .returned (.agg #[.bool (dN R), .string (dS R), .int .i64 (dX R)]) ∧ Below w.heap.size w w'
def ToP (R : Option (Bool × Nat)) (w : World) (o : Ending) (w' : World) : Prop := o = .returned (.tuple #[.bool (tN R), .int .u64 (tK R : Int), .bool R.isSome]) ∧ Below w.heap.size w w'
def BoolP (b : Bool) (w : World) (o : Ending) (w' : World) : Prop := o = .returned (.bool b) ∧ Below w.heap.size w w'

theorem rRight_p (n : Bool) (s : ByteArray) (e : Int) (w : World) : Calls Tryz.prog 121 #[.agg #[.bool n, .string s, .int .i64 e]] w (BoolP (rightD n s.data.toList e) w) := right_agg rfl w
theorem rToInt_p (n : Bool) (s : ByteArray) (e : Int) (w : World) : Calls Tryz.prog 75 #[.agg #[.bool n, .string s, .int .i64 e]] w (ToP (toI n s.data.toList e) w) :=
  (rToInt_calls n s e w).mono fun o w' ⟨h1, h2⟩ => ⟨by rw [h1, ToRes_parts], h2⟩
end Go.Proofs.YtppapkpceejnkaaGreatDoor
