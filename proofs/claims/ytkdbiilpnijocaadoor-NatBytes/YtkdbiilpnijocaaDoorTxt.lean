/- Texts of naturals: plain facts. -/
import Derived.Test.YtkdbiilpnijocaaDoorTell
import Derived.Test.YtkdbiilpnijocaaDoorRMath
namespace Go.Proofs.YtkdbiilpnijocaaDoor
open Go.Lib (decDigits nDigits nDigits_small nDigits_big nDigits_pos lt_pow_nDigits decDigits_length decDigits_one)

theorem isD_iff (c : UInt8) : isD c = true ↔ 48 ≤ c.toNat ∧ c.toNat ≤ 57 := by
  rw [isD]
  simp

theorem dec_step {n : Nat} (h : ¬ n < 10) : decDigits n = decDigits (n / 10) ++ [UInt8.ofNat (48 + n % 10)] := by
  conv => lhs; rw [decDigits]
  rw [dif_neg h]

theorem dig_nat {d : Nat} (h : d < 10) : (UInt8.ofNat (48 + d)).toNat = 48 + d := by
  rw [UInt8.toNat_ofNat', Nat.mod_eq_of_lt (by simp; omega)]

/-- The number of a numeral. -/
theorem dv_dec (n : Nat) : dv (decDigits n) = n := by
  induction n using Nat.strongRecOn with
  | _ n ih =>
    by_cases h : n < 10
    · rw [decDigits_one h, dv, List.foldl_cons, List.foldl_nil, dig_nat h]; omega
    · rw [dec_step h, dv_snoc, ih (n / 10) (by omega), dig_nat (by omega)]; omega

theorem all_dec (n : Nat) : (decDigits n).all isD = true := by
  induction n using Nat.strongRecOn with
  | _ n ih =>
    by_cases h : n < 10
    · rw [decDigits_one h, List.all_cons, List.all_nil, Bool.and_true, isD_iff, dig_nat h]; omega
    · rw [dec_step h, List.all_append, ih (n / 10) (by omega), List.all_cons, List.all_nil, Bool.and_true, Bool.true_and, isD_iff, dig_nat (by omega)]; omega

theorem dec_ne (n : Nat) : decDigits n ≠ [] := by
  intro e
  have := decDigits_length n
  have := nDigits_pos n
  rw [e, List.length_nil] at *
  omega

theorem head_dec {n : Nat} (h : 0 < n) : ∃ c, (decDigits n).head? = some c ∧ 49 ≤ c.toNat := by
  induction n using Nat.strongRecOn with
  | _ n ih =>
    by_cases h1 : n < 10
    · rw [decDigits_one h1]; exact ⟨_, rfl, by rw [dig_nat h1]; omega⟩
    · obtain ⟨c, hc, h2⟩ := ih (n / 10) (by omega) (by omega)
      refine ⟨c, ?_, h2⟩
      rw [dec_step h1, List.head?_append, hc]; rfl

theorem isNat_dec {n : Nat} (h : n < lim) : isNat (decDigits n) = true := by
  have h1 : (decDigits n).length ≤ 400 := by rw [decDigits_length]; exact (lim_iff n).2 h
  have h2 : ((decDigits n).head? != some 48 || decDigits n == [48]) = true := by
    by_cases h0 : n = 0
    · subst h0; rw [decDigits_one (by omega)]; rfl
    · obtain ⟨c, hc, h2⟩ := head_dec (n := n) (by omega)
      rw [hc]
      have : c ≠ 48 := by rintro rfl; simp at h2
      simp [this]
  have h3 : (decDigits n).isEmpty = false := by
    cases e : decDigits n with
    | nil => exact absurd e (dec_ne n)
    | cons => rfl
  rw [isNat, h3, all_dec, h2]
  simp [h1]

/-- Digits of just that length. -/
theorem digs_dv (l : List UInt8) (h : l.all isD = true) : digs l.length (dv l) = l := by
  induction hn : l.length generalizing l with
  | zero => rw [List.eq_nil_of_length_eq_zero hn]; rfl
  | succ k ih =>
    obtain ⟨m, c, rfl⟩ : ∃ m c, l = m ++ [c] := ⟨l.dropLast, l.getLast (by intro e; subst e; simp at hn), (List.dropLast_concat_getLast _).symm⟩
    rw [List.all_append] at h
    simp only [List.all_cons, List.all_nil, Bool.and_true, Bool.and_eq_true] at h
    obtain ⟨h1, h2⟩ := h
    rw [isD_iff] at h2
    rw [List.length_append, List.length_singleton] at hn
    have e1 : (dv m * 10 + (c.toNat - 48)) / 10 = dv m := by omega
    have e2 : (dv m * 10 + (c.toNat - 48)) % 10 = c.toNat - 48 := by omega
    rw [dv_snoc, digs, e1, e2, ih m h1 (by omega), show 48 + (c.toNat - 48) = c.toNat from by omega]
    simp

theorem dv_lt (l : List UInt8) (h : l.all isD = true) : dv l < 10 ^ l.length := by
  induction hn : l.length generalizing l with
  | zero => rw [List.eq_nil_of_length_eq_zero hn]; simp [dv]
  | succ k ih =>
    obtain ⟨m, c, rfl⟩ : ∃ m c, l = m ++ [c] := ⟨l.dropLast, l.getLast (by intro e; subst e; simp at hn), (List.dropLast_concat_getLast _).symm⟩
    rw [List.all_append] at h
    simp only [List.all_cons, List.all_nil, Bool.and_true, Bool.and_eq_true] at h
    obtain ⟨h1, h2⟩ := h
    rw [isD_iff] at h2
    rw [List.length_append, List.length_singleton] at hn
    have := ih m h1 (by omega)
    rw [dv_snoc, Nat.pow_succ]
    omega

theorem dv_ge (c : UInt8) (l : List UInt8) (h : 49 ≤ c.toNat) : 10 ^ l.length ≤ dv (c :: l) := by
  induction hn : l.length generalizing l with
  | zero => rw [List.eq_nil_of_length_eq_zero hn]; simp [dv]; omega
  | succ k ih =>
    obtain ⟨m, d, rfl⟩ : ∃ m c, l = m ++ [c] := ⟨l.dropLast, l.getLast (by intro e; subst e; simp at hn), (List.dropLast_concat_getLast _).symm⟩
    rw [List.length_append, List.length_singleton] at hn
    have := ih m (by omega)
    rw [← List.cons_append, dv_snoc, Nat.pow_succ]
    omega

theorem isNat_parts {l : List UInt8} (h : isNat l = true) : l ≠ [] ∧ l.length ≤ 400 ∧ (l.head? ≠ some 48 ∨ l = [48]) ∧ l.all isD = true := by
  rw [isNat] at h
  simp only [Bool.and_eq_true, Bool.not_eq_true', decide_eq_true_eq, Bool.or_eq_true, bne_iff_ne, ne_eq, beq_iff_eq] at h
  obtain ⟨⟨⟨h1, h2⟩, h3⟩, h4⟩ := h
  exact ⟨by intro e; subst e; simp at h1, h2, h3, h4⟩

theorem dv_lim {l : List UInt8} (h : isNat l = true) : dv l < lim := by
  obtain ⟨h1, h2, h3, h4⟩ := isNat_parts h
  have h5 := dv_lt l h4
  rw [← lim_iff]
  have : 1 ≤ l.length := by cases l; exact absurd rfl h1; simp
  exact Nat.le_trans (nDigits_le this h5) h2

/-- A text of a natural is its number's numeral. -/
theorem dec_dv {l : List UInt8} (h : isNat l = true) : decDigits (dv l) = l := by
  obtain ⟨h1, h2, h3, h4⟩ := isNat_parts h
  have hl : nDigits (dv l) = l.length := by
    cases l with
    | nil => exact absurd rfl h1
    | cons c m =>
      rcases h3 with h3 | h3
      · have hc : 49 ≤ c.toNat := by
          have h5 := (List.all_eq_true.1 h4) c (by simp)
          rw [isD_iff] at h5
          have : c.toNat ≠ 48 := by
            intro e
            apply h3
            have : c = 48 := UInt8.toNat.inj e
            rw [this]; rfl
          omega
        have h6 := dv_ge c m hc
        have h7 := nDigits_le (k := m.length + 1) (by omega) (dv_lt (c :: m) h4)
        have h8 := lt_pow_nDigits (dv (c :: m))
        have h9 : m.length < nDigits (dv (c :: m)) := by
          rcases Nat.lt_or_ge m.length (nDigits (dv (c :: m))) with h | h
          · exact h
          · have := Nat.pow_le_pow_right (show 0 < 10 by omega) h
            omega
        rw [List.length_cons]; omega
      · rw [h3]; exact nDigits_small (by decide)
  rw [dec_digs, hl, digs_dv l h4]

theorem dv_inj {l m : List UInt8} (hl : isNat l = true) (hm : isNat m = true) (h : dv l = dv m) : l = m := by rw [← dec_dv hl, ← dec_dv hm, h]

theorem outS_lim {n : Nat} (h : n < lim) : outS n = decDigits n := by rw [outS, if_pos h]
theorem outE_lim {n : Nat} (h : n < lim) : outE n = 0 := by rw [outE, if_pos h]
theorem outS_long {n : Nat} (h : ¬ n < lim) : outS n = [] := by rw [outS, if_neg h]
theorem outE_long {n : Nat} (h : ¬ n < lim) : outE n = 11 := by rw [outE, if_neg h]
theorem lt_lim {n k : Nat} (hk : 1 ≤ k) (hk2 : k ≤ 400) (h : n < 10 ^ k) : n < lim := (lim_iff n).1 (Nat.le_trans (nDigits_le hk h) hk2)
end Go.Proofs.YtkdbiilpnijocaaDoor
