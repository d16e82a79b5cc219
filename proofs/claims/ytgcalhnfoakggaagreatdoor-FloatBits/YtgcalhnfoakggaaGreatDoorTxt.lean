/- Texts of naturals: plain facts. -/
import Derived.Test.YtgcalhnfoakggaaGreatDoorTell
import Derived.Test.YtgcalhnfoakggaaGreatDoorRMath
namespace Go.Proofs.YtgcalhnfoakggaaGreatDoor
open Go.Lib (decDigits nDigits nDigits_small nDigits_big nDigits_pos lt_pow_nDigits decDigits_length decDigits_one)

theorem dv_lim {l : List UInt8} (h : isNat l = true) : dv l < lim := by
  obtain ⟨h1, h2, h3, h4⟩ := isNat_parts h
  have h5 := dv_lt l h4
  rw [← lim_iff]
  have : 1 ≤ l.length := by cases l; exact absurd rfl h1; simp
  exact Nat.le_trans (nDigits_le this h5) h2

/-- A text of a natural is its number's numeral. -/
theorem dec_dv {l : List UInt8} (h : isNat l = true) : decDigits (dv l) = l := by
  obtain ⟨h1, h2, h3, h4⟩ := isNat_parts h
  have hl : nDigits (dv l) = l.length := by
    cases l with
    | nil => exact absurd rfl h1
    | cons c m =>
      rcases h3 with h3 | h3
      · have hc : 49 ≤ c.toNat := by
          have h5 := (List.all_eq_true.1 h4) c (by simp)
          rw [isD_iff] at h5
          have : c.toNat ≠ 48 := by
            intro e
            apply h3
            have : c = 48 := UInt8.toNat.inj e
            rw [this]; rfl
          omega
        have h6 := dv_ge c m hc
        have h7 := nDigits_le (k := m.length + 1) (by omega) (dv_lt (c :: m) h4)
        have h8 := lt_pow_nDigits (dv (c :: m))
        have h9 : m.length < nDigits (dv (c :: m)) := by
          rcases Nat.lt_or_ge m.length (nDigits (dv (c :: m))) with h | h
          · exact h
          · have := Nat.pow_le_pow_right (show 0 < 10 by omega) h
            omega
        rw [List.length_cons]; omega
      · rw [h3]; exact nDigits_small (by decide)
  rw [dec_digs, hl, digs_dv l h4]

theorem dv_inj {l m : List UInt8} (hl : isNat l = true) (hm : isNat m = true) (h : dv l = dv m) : l = m := by rw [← dec_dv hl, ← dec_dv hm, h]

theorem outS_lim {n : Nat} (h : n < lim) : outS n = decDigits n := by rw [outS, if_pos h]
theorem outE_lim {n : Nat} (h : n < lim) : outE n = 0 := by rw [outE, if_pos h]
theorem outS_long {n : Nat} (h : ¬ n < lim) : outS n = [] := by rw [outS, if_neg h]
theorem outE_long {n : Nat} (h : ¬ n < lim) : outE n = 11 := by rw [outE, if_neg h]
theorem lt_lim {n k : Nat} (hk : 1 ≤ k) (hk2 : k ≤ 400) (h : n < 10 ^ k) : n < lim := (lim_iff n).1 (Nat.le_trans (nDigits_le hk h) hk2)
end Go.Proofs.YtgcalhnfoakggaaGreatDoor
