/- Plain mathematics: floats by their bits, widened and narrowed. Plain mathematics: what is narrowed, the least width. Plain mathematics: floats and their decimals. Plain mathematics: a float's decimal is that float's; a decimal's float has that decimal. Plain mathematics: a decimal's float has that decimal; whole numbers and halves; signs. Plain mathematics: values of floats, placed in a form; bits turned from one form to another. Plain mathematics: what is turned is what is widened, narrowed. Plain mathematics: the decimal of a value, the value of a decimal. -/
import Derived.Test.YtppapkpceejnkaaGreatDoorMc

namespace Go.Proofs.YtppapkpceejnkaaGreatDoor

/-- Bits of 16 as bits of 64. -/
def wid16 (b : Nat) : Nat :=
  if b / 1024 % 32 = 31 then b / 32768 * 9223372036854775808 + 2047 * 4503599627370496 + b % 1024 * 4398046511104
  else if b / 1024 % 32 = 0 then
    if b % 1024 = 0 then b / 32768 * 9223372036854775808
    else b / 32768 * 9223372036854775808 + (999 + (b % 1024).log2) * 4503599627370496 + (b % 1024 * 2 ^ (52 - (b % 1024).log2) - 4503599627370496)
  else b / 32768 * 9223372036854775808 + (b / 1024 % 32 + 1008) * 4503599627370496 + b % 1024 * 4398046511104
/-- What bits of 64 would be narrowed to. -/
def nar16 (a : Nat) : Nat :=
  if a / 4503599627370496 % 2048 = 2047 then a / 9223372036854775808 * 32768 + 31 * 1024 + a % 4503599627370496 / 4398046511104
  else if 1008 < a / 4503599627370496 % 2048 ∧ a / 4503599627370496 % 2048 < 1039 then a / 9223372036854775808 * 32768 + (a / 4503599627370496 % 2048 - 1008) * 1024 + a % 4503599627370496 / 4398046511104
  else if 998 < a / 4503599627370496 % 2048 ∧ a / 4503599627370496 % 2048 ≤ 1008 then a / 9223372036854775808 * 32768 + (4503599627370496 + a % 4503599627370496) / 2 ^ (1051 - a / 4503599627370496 % 2048)
  else a / 9223372036854775808 * 32768

/-- Bits of 32 as bits of 64. -/
def wid32 (b : Nat) : Nat :=
  if b / 8388608 % 256 = 255 then b / 2147483648 * 9223372036854775808 + 2047 * 4503599627370496 + b % 8388608 * 536870912
  else if b / 8388608 % 256 = 0 then
    if b % 8388608 = 0 then b / 2147483648 * 9223372036854775808
    else b / 2147483648 * 9223372036854775808 + (874 + (b % 8388608).log2) * 4503599627370496 + (b % 8388608 * 2 ^ (52 - (b % 8388608).log2) - 4503599627370496)
  else b / 2147483648 * 9223372036854775808 + (b / 8388608 % 256 + 896) * 4503599627370496 + b % 8388608 * 536870912
/-- What bits of 64 would be narrowed to. -/
def nar32 (a : Nat) : Nat :=
  if a / 4503599627370496 % 2048 = 2047 then a / 9223372036854775808 * 2147483648 + 255 * 8388608 + a % 4503599627370496 / 536870912
  else if 896 < a / 4503599627370496 % 2048 ∧ a / 4503599627370496 % 2048 < 1151 then a / 9223372036854775808 * 2147483648 + (a / 4503599627370496 % 2048 - 896) * 8388608 + a % 4503599627370496 / 536870912
  else if 873 < a / 4503599627370496 % 2048 ∧ a / 4503599627370496 % 2048 ≤ 896 then a / 9223372036854775808 * 2147483648 + (4503599627370496 + a % 4503599627370496) / 2 ^ (926 - a / 4503599627370496 % 2048)
  else a / 9223372036854775808 * 2147483648

theorem log_cases16 {f : Nat} (h0 : f ≠ 0) (h : f < 1024) : ∃ j, f.log2 = j ∧ j < 10 ∧ 2 ^ j ≤ f ∧ f < 2 ^ (j + 1) :=
  ⟨_, rfl, (Nat.log2_lt h0).2 h, Nat.log2_self_le h0, Nat.lt_log2_self⟩
theorem nar_wid16 {b : Nat} (hb : b < 65536) : nar16 (wid16 b) = b ∧ wid16 b < 18446744073709551616 := by
  by_cases h1 : b / 1024 % 32 = 31
  · have e : wid16 b = b / 32768 * 9223372036854775808 + 2047 * 4503599627370496 + b % 1024 * 4398046511104 := by rw [wid16, if_pos h1]
    have g1 : wid16 b / 4503599627370496 % 2048 = 2047 := by omega
    refine ⟨?_, by omega⟩
    rw [nar16, if_pos g1]
    omega
  · by_cases h2 : b / 1024 % 32 = 0
    · by_cases h3 : b % 1024 = 0
      · have e : wid16 b = b / 32768 * 9223372036854775808 := by rw [wid16, if_neg h1, if_pos h2, if_pos h3]
        have g1 : wid16 b / 4503599627370496 % 2048 = 0 := by omega
        refine ⟨?_, by omega⟩
        rw [nar16, g1, if_neg (by decide), if_neg (by decide), if_neg (by decide)]
        omega
      · obtain ⟨j, hj, hj1, hj2, hj3⟩ := log_cases16 h3 (Nat.mod_lt b (by decide))
        have e : wid16 b = b / 32768 * 9223372036854775808 + (999 + j) * 4503599627370496 + (b % 1024 * 2 ^ (52 - j) - 4503599627370496) := by rw [wid16, if_neg h1, if_pos h2, if_neg h3, hj]
        have hpow : 2 ^ (52 - j) * 2 ^ j = 4503599627370496 := by rw [← Nat.pow_add, show 52 - j + j = 52 from by omega]
        obtain ⟨P, hP⟩ : ∃ P, P = 2 ^ (52 - j) := ⟨_, rfl⟩
        obtain ⟨J, hJ⟩ : ∃ J, J = 2 ^ j := ⟨_, rfl⟩
        obtain ⟨f, hf⟩ : ∃ f, f = b % 1024 := ⟨_, rfl⟩
        rw [Nat.pow_succ, ← hJ, ← hf] at hj3
        rw [← hJ, ← hf] at hj2
        rw [← hP, ← hJ] at hpow
        rw [← hP, ← hf] at e
        have hlo : 4503599627370496 ≤ f * P := by rw [← hpow, Nat.mul_comm P J]; exact Nat.mul_le_mul_right P hj2
        have hhi : f * P < 9007199254740992 := by
          have := Nat.mul_lt_mul_of_pos_right hj3 (show 0 < P by rw [hP]; exact Nat.pow_pos (by decide))
          rw [Nat.mul_assoc, Nat.mul_comm 2 P, ← Nat.mul_assoc, Nat.mul_comm J P, hpow] at this
          omega
        obtain ⟨X, hX⟩ : ∃ X, X = f * P := ⟨_, rfl⟩
        rw [← hX] at e hlo hhi
        have g1 : wid16 b / 4503599627370496 % 2048 = 999 + j := by omega
        have g2 : wid16 b % 4503599627370496 = X - 4503599627370496 := by omega
        have g3 : wid16 b / 9223372036854775808 = b / 32768 := by omega
        refine ⟨?_, by omega⟩
        rw [nar16, g1, g2, g3, if_neg (by omega), if_neg (by omega), if_pos (by omega), show 1051 - (999 + j) = 52 - j from by omega, ← hP, show 4503599627370496 + (X - 4503599627370496) = f * P from by omega, Nat.mul_div_cancel _ (show 0 < P by rw [hP]; exact Nat.pow_pos (by decide))]
        omega
    · have e : wid16 b = b / 32768 * 9223372036854775808 + (b / 1024 % 32 + 1008) * 4503599627370496 + b % 1024 * 4398046511104 := by rw [wid16, if_neg h1, if_neg h2]
      have g1 : wid16 b / 4503599627370496 % 2048 = b / 1024 % 32 + 1008 := by omega
      refine ⟨?_, by omega⟩
      rw [nar16, if_neg (by omega), if_pos (by omega)]
      omega
theorem nar_lt16 {a : Nat} (ha : a < 18446744073709551616) (h : wid16 (nar16 a) = a) : nar16 a < 65536 := by
  rw [nar16] at h ⊢
  split
  · omega
  · split
    · omega
    · split
      · rename_i h1 h2 h3
        obtain ⟨t, ht⟩ : ∃ t, t = 1051 - a / 4503599627370496 % 2048 := ⟨_, rfl⟩
        have h5 : 43 ≤ t := by omega
        have h6 : 2 ^ 43 ≤ 2 ^ t := Nat.pow_le_pow_right (by decide) h5
        have h7 : (4503599627370496 + a % 4503599627370496) / 2 ^ t ≤ (4503599627370496 + a % 4503599627370496) / 2 ^ 43 := Nat.div_le_div_left h6 (by decide)
        rw [← ht]
        have h8 : (4503599627370496 + a % 4503599627370496) / 2 ^ 43 < 1024 := by
          rw [show (2 : Nat) ^ 43 = 8796093022208 from by decide]
          omega
        omega
      · omega

theorem log_cases32 {f : Nat} (h0 : f ≠ 0) (h : f < 8388608) : ∃ j, f.log2 = j ∧ j < 23 ∧ 2 ^ j ≤ f ∧ f < 2 ^ (j + 1) :=
  ⟨_, rfl, (Nat.log2_lt h0).2 h, Nat.log2_self_le h0, Nat.lt_log2_self⟩
theorem nar_wid32 {b : Nat} (hb : b < 4294967296) : nar32 (wid32 b) = b ∧ wid32 b < 18446744073709551616 := by
  by_cases h1 : b / 8388608 % 256 = 255
  · have e : wid32 b = b / 2147483648 * 9223372036854775808 + 2047 * 4503599627370496 + b % 8388608 * 536870912 := by rw [wid32, if_pos h1]
    have g1 : wid32 b / 4503599627370496 % 2048 = 2047 := by omega
    refine ⟨?_, by omega⟩
    rw [nar32, if_pos g1]
    omega
  · by_cases h2 : b / 8388608 % 256 = 0
    · by_cases h3 : b % 8388608 = 0
      · have e : wid32 b = b / 2147483648 * 9223372036854775808 := by rw [wid32, if_neg h1, if_pos h2, if_pos h3]
        have g1 : wid32 b / 4503599627370496 % 2048 = 0 := by omega
        refine ⟨?_, by omega⟩
        rw [nar32, g1, if_neg (by decide), if_neg (by decide), if_neg (by decide)]
        omega
      · obtain ⟨j, hj, hj1, hj2, hj3⟩ := log_cases32 h3 (Nat.mod_lt b (by decide))
        have e : wid32 b = b / 2147483648 * 9223372036854775808 + (874 + j) * 4503599627370496 + (b % 8388608 * 2 ^ (52 - j) - 4503599627370496) := by rw [wid32, if_neg h1, if_pos h2, if_neg h3, hj]
        have hpow : 2 ^ (52 - j) * 2 ^ j = 4503599627370496 := by rw [← Nat.pow_add, show 52 - j + j = 52 from by omega]
        obtain ⟨P, hP⟩ : ∃ P, P = 2 ^ (52 - j) := ⟨_, rfl⟩
        obtain ⟨J, hJ⟩ : ∃ J, J = 2 ^ j := ⟨_, rfl⟩
        obtain ⟨f, hf⟩ : ∃ f, f = b % 8388608 := ⟨_, rfl⟩
        rw [Nat.pow_succ, ← hJ, ← hf] at hj3
        rw [← hJ, ← hf] at hj2
        rw [← hP, ← hJ] at hpow
        rw [← hP, ← hf] at e
        have hlo : 4503599627370496 ≤ f * P := by rw [← hpow, Nat.mul_comm P J]; exact Nat.mul_le_mul_right P hj2
        have hhi : f * P < 9007199254740992 := by
          have := Nat.mul_lt_mul_of_pos_right hj3 (show 0 < P by rw [hP]; exact Nat.pow_pos (by decide))
          rw [Nat.mul_assoc, Nat.mul_comm 2 P, ← Nat.mul_assoc, Nat.mul_comm J P, hpow] at this
          omega
        obtain ⟨X, hX⟩ : ∃ X, X = f * P := ⟨_, rfl⟩
        rw [← hX] at e hlo hhi
        have g1 : wid32 b / 4503599627370496 % 2048 = 874 + j := by omega
        have g2 : wid32 b % 4503599627370496 = X - 4503599627370496 := by omega
        have g3 : wid32 b / 9223372036854775808 = b / 2147483648 := by omega
        refine ⟨?_, by omega⟩
        rw [nar32, g1, g2, g3, if_neg (by omega), if_neg (by omega), if_pos (by omega), show 926 - (874 + j) = 52 - j from by omega, ← hP, show 4503599627370496 + (X - 4503599627370496) = f * P from by omega, Nat.mul_div_cancel _ (show 0 < P by rw [hP]; exact Nat.pow_pos (by decide))]
        omega
    · have e : wid32 b = b / 2147483648 * 9223372036854775808 + (b / 8388608 % 256 + 896) * 4503599627370496 + b % 8388608 * 536870912 := by rw [wid32, if_neg h1, if_neg h2]
      have g1 : wid32 b / 4503599627370496 % 2048 = b / 8388608 % 256 + 896 := by omega
      refine ⟨?_, by omega⟩
      rw [nar32, if_neg (by omega), if_pos (by omega)]
      omega
theorem nar_lt32 {a : Nat} (ha : a < 18446744073709551616) (h : wid32 (nar32 a) = a) : nar32 a < 4294967296 := by
  rw [nar32] at h ⊢
  split
  · omega
  · split
    · omega
    · split
      · rename_i h1 h2 h3
        obtain ⟨t, ht⟩ : ∃ t, t = 926 - a / 4503599627370496 % 2048 := ⟨_, rfl⟩
        have h5 : 30 ≤ t := by omega
        have h6 : 2 ^ 30 ≤ 2 ^ t := Nat.pow_le_pow_right (by decide) h5
        have h7 : (4503599627370496 + a % 4503599627370496) / 2 ^ t ≤ (4503599627370496 + a % 4503599627370496) / 2 ^ 30 := Nat.div_le_div_left h6 (by decide)
        rw [← ht]
        have h8 : (4503599627370496 + a % 4503599627370496) / 2 ^ 30 < 8388608 := by
          rw [show (2 : Nat) ^ 30 = 1073741824 from by decide]
          omega
        omega
      · omega
end Go.Proofs.YtppapkpceejnkaaGreatDoor

namespace Go.Proofs.YtppapkpceejnkaaGreatDoor

/-- Is it a width? -/
def isW (w : Int) : Bool := w == 16 || w == 32 || w == 64
/-- What bits are widened to; none: they are too many for the width, or it is none. -/
def widO (b : Nat) (w : Int) : Option Nat :=
  if w = 16 then (if b < 65536 then some (wid16 b) else none)
  else if w = 32 then (if b < 4294967296 then some (wid32 b) else none)
  else if w = 64 then some b else none
/-- What bits of 64 are narrowed to. -/
def narO (a : Nat) (w : Int) : Option Nat :=
  if w = 16 then (if wid16 (nar16 a) = a then some (nar16 a) else none)
  else if w = 32 then (if wid32 (nar32 a) = a then some (nar32 a) else none)
  else if w = 64 then some a else none
/-- The least width. -/
def leastW (a : Nat) : Int := if wid16 (nar16 a) = a then 16 else if wid32 (nar32 a) = a then 32 else 64
def isFin (a : Nat) : Bool := !(a / 4503599627370496 % 2048 == 2047)

/-- What 16 bits are, 32 bits are. -/
theorem wid_16_32 {b : Nat} (hb : b < 65536) : wid32 (nar32 (wid16 b)) = wid16 b := by
  have hlt := (nar_wid16 hb).2
  have key : ∀ a c, nar32 a = c → c < 4294967296 → wid32 c = a → wid32 (nar32 a) = a := fun a c h1 _ h2 => by rw [h1, h2]
  by_cases h1 : b / 1024 % 32 = 31
  · have e : wid16 b = b / 32768 * 9223372036854775808 + 2047 * 4503599627370496 + b % 1024 * 4398046511104 := by rw [wid16, if_pos h1]
    refine key _ (b / 32768 * 2147483648 + 255 * 8388608 + b % 1024 * 8192) ?_ (by omega) ?_
    · rw [nar32, if_pos (by omega)]; omega
    · rw [wid32, if_pos (by omega)]; omega
  · by_cases h2 : b / 1024 % 32 = 0
    · by_cases h3 : b % 1024 = 0
      · have e : wid16 b = b / 32768 * 9223372036854775808 := by rw [wid16, if_neg h1, if_pos h2, if_pos h3]
        refine key _ (b / 32768 * 2147483648) ?_ (by omega) ?_
        · rw [nar32, if_neg (by omega), if_neg (by omega), if_neg (by omega)]; omega
        · rw [wid32, if_neg (by omega), if_pos (by omega), if_pos (by omega)]; omega
      · obtain ⟨j, hj, hj1, hj2, hj3⟩ := log_cases16 h3 (Nat.mod_lt b (by decide))
        have e : wid16 b = b / 32768 * 9223372036854775808 + (999 + j) * 4503599627370496 + (b % 1024 * 2 ^ (52 - j) - 4503599627370496) := by rw [wid16, if_neg h1, if_pos h2, if_neg h3, hj]
        have hpow : 2 ^ (52 - j) = 2 ^ (23 - j) * 536870912 := by rw [show 52 - j = (23 - j) + 29 from by omega, Nat.pow_add]
        have hp2 : 2 ^ (23 - j) * 2 ^ j = 8388608 := by rw [← Nat.pow_add, show 23 - j + j = 23 from by omega]
        obtain ⟨P, hP⟩ : ∃ P, P = 2 ^ (23 - j) := ⟨_, rfl⟩
        obtain ⟨J, hJ⟩ : ∃ J, J = 2 ^ j := ⟨_, rfl⟩
        obtain ⟨f, hf⟩ : ∃ f, f = b % 1024 := ⟨_, rfl⟩
        rw [Nat.pow_succ, ← hJ, ← hf] at hj3
        rw [← hJ, ← hf] at hj2
        rw [← hP, ← hJ] at hp2
        rw [hpow, ← hP, ← hf, ← Nat.mul_assoc] at e
        have hlo : 8388608 ≤ f * P := by rw [← hp2, Nat.mul_comm P J]; exact Nat.mul_le_mul_right P hj2
        have hhi : f * P < 16777216 := by
          have := Nat.mul_lt_mul_of_pos_right hj3 (show 0 < P by rw [hP]; exact Nat.pow_pos (by decide))
          rw [Nat.mul_assoc, Nat.mul_comm 2 P, ← Nat.mul_assoc, Nat.mul_comm J P, hp2] at this
          omega
        obtain ⟨X, hX⟩ : ∃ X, X = f * P := ⟨_, rfl⟩
        rw [← hX] at e hlo hhi
        refine key _ (b / 32768 * 2147483648 + (103 + j) * 8388608 + (X - 8388608)) ?_ (by omega) ?_
        · rw [nar32, if_neg (by omega), if_pos (by omega)]; omega
        · rw [wid32, if_neg (by omega), if_neg (by omega)]; omega
    · have e : wid16 b = b / 32768 * 9223372036854775808 + (b / 1024 % 32 + 1008) * 4503599627370496 + b % 1024 * 4398046511104 := by rw [wid16, if_neg h1, if_neg h2]
      refine key _ (b / 32768 * 2147483648 + (b / 1024 % 32 + 112) * 8388608 + b % 1024 * 8192) ?_ (by omega) ?_
      · rw [nar32, if_neg (by omega), if_pos (by omega)]; omega
      · rw [wid32, if_neg (by omega), if_neg (by omega)]; omega

theorem nar_16_32 {a : Nat} (ha : a < 18446744073709551616) (h : wid16 (nar16 a) = a) : wid32 (nar32 a) = a := by
  have := wid_16_32 (nar_lt16 ha h)
  rw [h] at this
  exact this

/-- What is widened is narrowed again. -/
theorem nar_of_wid {b a : Nat} {w : Int} (h : widO b w = some a) : narO a w = some b := by
  rw [widO] at h
  rw [narO]
  split at h
  · rename_i hw
    split at h
    · rename_i hb
      cases h
      rw [if_pos hw, (nar_wid16 hb).1, if_pos rfl]
    · cases h
  · rename_i hw
    split at h
    · rename_i hw2
      split at h
      · rename_i hb
        cases h
        rw [if_neg hw, if_pos hw2, (nar_wid32 hb).1, if_pos rfl]
      · cases h
    · rename_i hw2
      split at h
      · rename_i hw3
        cases h
        rw [if_neg hw, if_neg hw2, if_pos hw3]
      · cases h
/-- What is narrowed is widened again. -/
theorem wid_of_nar {b a : Nat} {w : Int} (ha : a < 18446744073709551616) (h : narO a w = some b) : widO b w = some a := by
  rw [narO] at h
  rw [widO]
  split at h
  · rename_i hw
    split at h
    · rename_i hb
      cases h
      rw [if_pos hw, if_pos (nar_lt16 ha hb), hb]
    · cases h
  · rename_i hw
    split at h
    · rename_i hw2
      split at h
      · rename_i hb
        cases h
        rw [if_neg hw, if_pos hw2, if_pos (nar_lt32 ha hb), hb]
      · cases h
    · rename_i hw2
      split at h
      · rename_i hw3
        cases h
        rw [if_neg hw, if_neg hw2, if_pos hw3]
      · cases h
theorem nar_least {a : Nat} : (narO a (leastW a)).isSome = true := by
  rw [leastW]
  split
  · rename_i h; rw [narO, if_pos rfl, if_pos h]; rfl
  · split
    · rename_i h; rw [narO, if_neg (by decide), if_pos rfl, if_pos h]; rfl
    · rfl
/-- What is narrowed to a width is narrowed to all that are no less than the least. -/
theorem nar_iff {a : Nat} {w : Int} (ha : a < 18446744073709551616) (hw : isW w = true) : (narO a w).isSome = decide (leastW a ≤ w) := by
  simp only [isW, Bool.or_eq_true, beq_iff_eq] at hw
  by_cases h16 : wid16 (nar16 a) = a
  · have h32 := nar_16_32 ha h16
    have hl : leastW a = 16 := by rw [leastW, if_pos h16]
    rw [hl]
    rcases hw with (rfl | rfl) | rfl
    · rw [narO, if_pos rfl, if_pos h16]; rfl
    · rw [narO, if_neg (by decide), if_pos rfl, if_pos h32]; rfl
    · rfl
  · by_cases h32 : wid32 (nar32 a) = a
    · have hl : leastW a = 32 := by rw [leastW, if_neg h16, if_pos h32]
      rw [hl]
      rcases hw with (rfl | rfl) | rfl
      · rw [narO, if_pos rfl, if_neg h16]; rfl
      · rw [narO, if_neg (by decide), if_pos rfl, if_pos h32]; rfl
      · rfl
    · have hl : leastW a = 64 := by rw [leastW, if_neg h16, if_neg h32]
      rw [hl]
      rcases hw with (rfl | rfl) | rfl
      · rw [narO, if_pos rfl, if_neg h16]; rfl
      · rw [narO, if_neg (by decide), if_pos rfl, if_neg h32]; rfl
      · rfl
theorem wid_some {b : Nat} {w : Int} (hw : isW w = false) : widO b w = none ∧ ∀ a, narO a w = none := by
  simp only [isW, Bool.or_eq_false_iff, beq_eq_false_iff_ne, ne_eq] at hw
  obtain ⟨⟨h1, h2⟩, h3⟩ := hw
  exact ⟨by rw [widO, if_neg h1, if_neg h2, if_neg h3], fun a => by rw [narO, if_neg h1, if_neg h2, if_neg h3]⟩
end Go.Proofs.YtppapkpceejnkaaGreatDoor

namespace Go.Proofs.YtppapkpceejnkaaGreatDoor
open Go.Lib (decDigits nDigits)

/-- A float's parts. -/
def mantN (a : Nat) : Nat := if a / 4503599627370496 % 2048 = 0 then a % 4503599627370496 else a % 4503599627370496 + 4503599627370496
def exN (a : Nat) : Int := (if a / 4503599627370496 % 2048 = 0 then 1 else ((a / 4503599627370496 % 2048 : Nat) : Int)) - 1075
def sgnN (a : Nat) : Bool := decide (a / 9223372036854775808 = 1)
def strp2 : Nat → Nat → Nat × Nat
  | 0, m => (m, 0)
  | f + 1, m => if m % 2 = 0 then ((strp2 f (m / 2)).1, (strp2 f (m / 2)).2 + 1) else (m, 0)
theorem strp2_eq {o k : Nat} (ho : o % 2 ≠ 0) : ∀ {f : Nat}, k < f → strp2 f (o * 2 ^ k) = (o, k) := by
  induction k with
  | zero =>
    intro f hf
    cases f with
    | zero => omega
    | succ f => rw [Nat.pow_zero, Nat.mul_one, strp2, if_neg ho]
  | succ k ih =>
    intro f hf
    cases f with
    | zero => omega
    | succ f =>
      have e1 : o * 2 ^ (k + 1) / 2 = o * 2 ^ k := by rw [Nat.pow_succ, ← Nat.mul_assoc, Nat.mul_div_cancel _ (by omega)]
      have e2 : o * 2 ^ (k + 1) % 2 = 0 := by rw [Nat.pow_succ, ← Nat.mul_assoc, Nat.mul_mod_left]
      rw [strp2, if_pos e2, e1, ih (by omega)]
theorem strip2 : ∀ m : Nat, m ≠ 0 → ∃ o t, m = o * 2 ^ t ∧ o % 2 ≠ 0 := by
  intro m
  induction m using Nat.strongRecOn with
  | _ m ih =>
    intro h
    by_cases h2 : m % 2 = 0
    · obtain ⟨o, t, h3, h4⟩ := ih (m / 2) (by omega) (by omega)
      exact ⟨o, t + 1, by rw [Nat.pow_succ, ← Nat.mul_assoc, ← h3]; omega, h4⟩
    · exact ⟨m, 0, by simp, h2⟩
theorem pow_le_of {o t b : Nat} (h : o * 2 ^ t < 2 ^ b) (ho : o ≠ 0) : t < b := by
  have h1 : 2 ^ t ≤ o * 2 ^ t := Nat.le_mul_of_pos_left _ (by omega)
  exact (Nat.pow_lt_pow_iff_right (by decide : 1 < 2)).1 (Nat.lt_of_le_of_lt h1 h)

/-- A float's decimal. -/
def decX (a o : Nat) (X : Int) : Option (Bool × Nat × Int) :=
  if 0 ≤ X then makeR (sgnN a) (decDigits (o * 2 ^ X.toNat)) 0 else makeR (sgnN a) (decDigits (o * 5 ^ (-X).toNat)) X
def decOf (a : Nat) : Option (Bool × Nat × Int) :=
  if mantN a = 0 then some (false, 0, 0) else decX a (strp2 2000 (mantN a)).1 (exN a + (strp2 2000 (mantN a)).2)
theorem mant_lt (a : Nat) : mantN a < 2 ^ 53 := by
  rw [show (2 : Nat) ^ 53 = 9007199254740992 from by decide, mantN]
  split <;> omega
theorem decOf_parts {a o t : Nat} (hm : mantN a = o * 2 ^ t) (ho : o % 2 ≠ 0) : decOf a = decX a o (exN a + t) := by
  have h0 : o ≠ 0 := fun e => by rw [e] at ho; exact ho rfl
  have ht : t < 53 := pow_le_of (by rw [← hm]; exact mant_lt a) h0
  have hne : mantN a ≠ 0 := by
    rw [hm]
    intro e
    rcases Nat.mul_eq_zero.1 e with h | h
    · exact h0 h
    · exact absurd h (Nat.ne_of_gt (Nat.pow_pos (by decide)))
  rw [decOf, if_neg hne, hm, strp2_eq ho (by omega)]

/-- Bits of an odd number times a power of two. -/
def packB (n : Bool) (o : Nat) (X : Int) : Nat := (if n = true then 9223372036854775808 else 0) + (X + o.log2 + 1023).toNat * 4503599627370496 + (o * 2 ^ (52 - o.log2) - 4503599627370496)
def packR (n : Bool) (o : Nat) (X : Int) : Option Nat := if 9007199254740992 ≤ o then none else some (packB n o X)
def fives (c : Nat) (e : Int) : Nat := if e < 0 then c / 5 ^ (-e).toNat else c * 5 ^ e.toNat
/-- The float of a decimal. -/
def ofDecR (n : Bool) (c : Nat) (e : Int) : Option Nat :=
  if c = 0 then some 0 else if e < 0 ∧ c % 5 ^ (-e).toNat ≠ 0 then none else packR n (strp2 2000 (fives c e)).1 (e + (strp2 2000 (fives c e)).2)

/-- An odd number below 2^53, shifted up to 53 digits. -/
theorem shifted {o : Nat} (h0 : o ≠ 0) (h : o < 9007199254740992) : o.log2 ≤ 52 ∧ 4503599627370496 ≤ o * 2 ^ (52 - o.log2) ∧ o * 2 ^ (52 - o.log2) < 9007199254740992 := by
  have hl : o.log2 < 53 := (Nat.log2_lt h0).2 h
  have h1 := Nat.log2_self_le h0
  have h2 : o < 2 ^ (o.log2 + 1) := Nat.lt_log2_self
  obtain ⟨L, hL⟩ : ∃ L, L = o.log2 := ⟨_, rfl⟩
  rw [← hL] at hl h1 h2 ⊢
  have hp : 2 ^ L * 2 ^ (52 - L) = 4503599627370496 := by rw [← Nat.pow_add, show L + (52 - L) = 52 from by omega]
  have h3 := Nat.mul_le_mul_right (2 ^ (52 - L)) h1
  have h4 := Nat.mul_lt_mul_of_pos_right h2 (show 0 < 2 ^ (52 - L) from Nat.pow_pos (by decide))
  rw [hp] at h3
  rw [Nat.pow_succ, Nat.mul_assoc, Nat.mul_comm 2, ← Nat.mul_assoc, hp] at h4
  exact ⟨by omega, h3, h4⟩
set_option maxRecDepth 100000 in
theorem pack_parts {n : Bool} {o : Nat} {X : Int} (h0 : o ≠ 0) (h : o < 9007199254740992) (hx1 : 1 ≤ X + o.log2 + 1023) (hx2 : X + o.log2 + 1023 ≤ 2046) :
    packB n o X < 18446744073709551616 ∧ isFin (packB n o X) = true ∧ sgnN (packB n o X) = n ∧ mantN (packB n o X) = o * 2 ^ (52 - o.log2) ∧ exN (packB n o X) + (52 - o.log2 : Nat) = X := by
  obtain ⟨g1, g2, g3⟩ := shifted h0 h
  obtain ⟨M, hM⟩ : ∃ M, M = o * 2 ^ (52 - o.log2) := ⟨_, rfl⟩
  obtain ⟨E, hE⟩ : ∃ E : Nat, E = (X + o.log2 + 1023).toNat := ⟨_, rfl⟩
  obtain ⟨S, hS, hS2⟩ : ∃ S : Nat, S = (if n = true then 1 else 0) ∧ S < 2 := ⟨_, rfl, by split <;> omega⟩
  have hS3 : (if n = true then 9223372036854775808 else 0) = S * 9223372036854775808 := by cases n <;> simp [hS]
  have hp : packB n o X = S * 9223372036854775808 + E * 4503599627370496 + (M - 4503599627370496) := by unfold packB; rw [hS3, hM, hE]
  rw [← hM] at g2 g3 ⊢
  have hE1 : 1 ≤ E := by omega
  have hE2 : E ≤ 2046 := by omega
  have e1 : packB n o X / 4503599627370496 % 2048 = E := by omega
  have e2 : packB n o X % 4503599627370496 = M - 4503599627370496 := by omega
  have e3 : packB n o X / 9223372036854775808 = S := by omega
  refine ⟨by omega, ?_, ?_, ?_, ?_⟩
  · rw [isFin, e1, show (E == 2047) = false from by simp; omega]; rfl
  · rw [sgnN, e3, hS]; cases n <;> rfl
  · rw [mantN, e1, if_neg (by omega), e2]; omega
  · rw [exN, e1, if_neg (by omega)]; omega
set_option maxRecDepth 100000 in
/-- A float that is normal is packed of its parts. -/
theorem unpack {a o t : Nat} (ha : a < 18446744073709551616) (he : 1 ≤ a / 4503599627370496 % 2048) (hm : mantN a = o * 2 ^ t) (ho : o % 2 ≠ 0) : packR (sgnN a) o (exN a + t) = some a := by
  have h0 : o ≠ 0 := fun e => by rw [e] at ho; exact ho rfl
  have hml := mant_lt a
  rw [show (2 : Nat) ^ 53 = 9007199254740992 from by decide] at hml
  have hmg : 4503599627370496 ≤ mantN a := by rw [mantN, if_neg (by omega)]; omega
  have hol : o ≤ mantN a := by rw [hm]; exact Nat.le_mul_of_pos_right _ (Nat.pow_pos (by decide))
  obtain ⟨g1, g2, g3⟩ := shifted h0 (by omega)
  have ht : t = 52 - o.log2 := by
    have h1 := Nat.log2_self_le h0
    have h2 : o < 2 ^ (o.log2 + 1) := Nat.lt_log2_self
    have h3 : 2 ^ (o.log2 + t) ≤ mantN a := by rw [hm, Nat.pow_add]; exact Nat.mul_le_mul_right _ h1
    have h4 : mantN a < 2 ^ (o.log2 + 1 + t) := by rw [hm, Nat.pow_add]; exact Nat.mul_lt_mul_of_pos_right h2 (Nat.pow_pos (by decide))
    have h5 : o.log2 + t < 53 := (Nat.pow_lt_pow_iff_right (by decide : 1 < 2)).1 (Nat.lt_of_le_of_lt h3 (mant_lt a))
    have h6 : 52 < o.log2 + 1 + t := (Nat.pow_lt_pow_iff_right (by decide : 1 < 2)).1 (Nat.lt_of_le_of_lt (by rw [show (2 : Nat) ^ 52 = 4503599627370496 from by decide]; exact hmg) h4)
    omega
  have hS : (if sgnN a = true then 9223372036854775808 else 0) = a / 9223372036854775808 * 9223372036854775808 := by
    by_cases h1 : a / 9223372036854775808 = 1
    · rw [if_pos (by rw [sgnN]; simpa using h1), h1, Nat.one_mul]
    · rw [if_neg (by rw [sgnN]; simpa using h1), show a / 9223372036854775808 = 0 from by omega, Nat.zero_mul]
  rw [packR, if_neg (by omega)]
  refine congrArg some ?_
  unfold packB
  rw [hS, ← ht, ← hm]
  have hx : exN a = ((a / 4503599627370496 % 2048 : Nat) : Int) - 1075 := by rw [exN, if_neg (by omega)]
  have hmm : mantN a = a % 4503599627370496 + 4503599627370496 := by rw [mantN, if_neg (by omega)]
  have hE : (exN a + t + o.log2 + 1023).toNat = a / 4503599627370496 % 2048 := by omega
  rw [hE, hmm]
  omega
end Go.Proofs.YtppapkpceejnkaaGreatDoor

namespace Go.Proofs.YtppapkpceejnkaaGreatDoor
open Go.Lib (decDigits nDigits)

/-- What is made of a number's digits. -/
theorem make_num {n : Bool} {N c k : Nat} {x : Int} {r : Bool × Nat × Int} (hN : N = c * 10 ^ k) (hc : c % 10 ≠ 0) (h : makeR n (decDigits N) x = some r) : r = (n, c, x + k) ∧ nDigits c ≤ 100 ∧ -100 ≤ x + k ∧ x + k ≤ 100 := by
  by_cases hbad : decDigits N = [] ∨ 400 < (decDigits N).length ∨ x < -1000 ∨ 1000 < x ∨ (decDigits N).all isD = false
  · rw [makeR_bad hbad] at h; cases h
  · have hk : k ≤ 400 := by
      have h1 : nDigits N ≤ 400 := by rw [← Lib.decDigits_length]; omega
      exact pow_nd h1 hN (fun e => by rw [e] at hc; exact hc rfl)
    rw [makeR_more hbad (by rw [dv_dec]; exact hN) hc hk] at h
    split at h
    · rename_i hh
      cases h
      exact ⟨rfl, hh⟩
    · cases h

theorem odd5 (o q : Nat) (ho : o % 2 ≠ 0) : (o * 5 ^ q) % 2 ≠ 0 := by
  induction q with
  | zero => simpa using ho
  | succ q ih =>
    rw [Nat.pow_succ, ← Nat.mul_assoc]
    omega

theorem turn1 {a c : Nat} {n : Bool} {e : Int} (ha : a < 18446744073709551616) (h : decOf a = some (n, c, e)) : ofDecR n c e = some (if mantN a = 0 then 0 else a) := by
  by_cases hz : mantN a = 0
  · rw [decOf, if_pos hz] at h
    cases h
    rw [if_pos hz]; rfl
  rw [if_neg hz]
  obtain ⟨o, t, hm, ho⟩ := strip2 _ hz
  have h0 : o ≠ 0 := fun e => by rw [e] at ho; exact ho rfl
  have ht : t < 53 := pow_le_of (by rw [← hm]; exact mant_lt a) h0
  rw [decOf_parts hm ho, decX] at h
  have hxr : exN a = (if a / 4503599627370496 % 2048 = 0 then 1 else ((a / 4503599627370496 % 2048 : Nat) : Int)) - 1075 := rfl
  by_cases hX : 0 ≤ exN a + t
  · rw [if_pos hX] at h
    obtain ⟨X, hXe⟩ : ∃ X : Nat, exN a + t = X := ⟨(exN a + t).toNat, by omega⟩
    rw [hXe, Int.toNat_natCast] at h
    have hNz : o * 2 ^ X ≠ 0 := by
      intro e
      rcases Nat.mul_eq_zero.1 e with h | h
      · exact h0 h
      · exact absurd h (Nat.ne_of_gt (Nat.pow_pos (by decide)))
    obtain ⟨c0, k, hc0, hc1⟩ := strip _ hNz
    obtain ⟨hr, _, _, _⟩ := make_num hc0 hc1 h
    obtain ⟨rfl, rfl, rfl⟩ : n = sgnN a ∧ c = c0 ∧ e = 0 + (k : Int) := by cases hr; exact ⟨rfl, rfl, rfl⟩
    have hcz : c ≠ 0 := fun e => by rw [e] at hc1; exact hc1 rfl
    have h10 : o * 2 ^ X = c * 5 ^ k * 2 ^ k := by rw [hc0, show (10 : Nat) = 5 * 2 from rfl, Nat.mul_pow, Nat.mul_assoc]
    have hkX : k ≤ X := by
      rcases Nat.lt_or_ge X k with hlt | hge
      · exfalso
        rw [show k = (k - X - 1) + 1 + X from by omega, Nat.pow_add 2 (k - X - 1 + 1) X, ← Nat.mul_assoc] at h10
        have h11 := Nat.eq_of_mul_eq_mul_right (show 0 < 2 ^ X from Nat.pow_pos (by decide)) h10
        rw [Nat.pow_succ, ← Nat.mul_assoc] at h11
        omega
      · exact hge
    have hs : c * 5 ^ k = o * 2 ^ (X - k) := by
      rw [show X = X - k + k from by omega, Nat.pow_add, ← Nat.mul_assoc] at h10
      exact (Nat.eq_of_mul_eq_mul_right (show 0 < 2 ^ k from Nat.pow_pos (by decide)) h10).symm
    have hf : fives c (0 + (k : Int)) = o * 2 ^ (X - k) := by
      rw [fives, if_neg (by omega), show (0 + (k : Int)).toNat = k from by omega, hs]
    have hX2 : X < 1100 := by omega
    rw [ofDecR, if_neg hcz, if_neg (by omega), hf, strp2_eq ho (by omega)]
    have : (0 : Int) + (k : Int) + ((X - k : Nat) : Int) = exN a + t := by omega
    rw [show (0 + (k : Int) + (((o, X - k) : Nat × Nat).2 : Int)) = exN a + t from this]
    exact unpack ha (by
      rcases Nat.eq_zero_or_pos (a / 4503599627370496 % 2048) with h1 | h1
      · rw [if_pos h1] at hxr; omega
      · exact h1) hm ho
  · rw [if_neg hX] at h
    obtain ⟨q, hq⟩ : ∃ q : Nat, exN a + t = -(q : Int) ∧ 0 < q := ⟨(-(exN a + t)).toNat, by omega, by omega⟩
    rw [hq.1, show (-(-(q : Int))).toNat = q from by omega] at h
    have h2 := odd5 o q ho
    obtain ⟨hr, _, hl, _⟩ := make_num (k := 0) (c := o * 5 ^ q) (by simp) (by omega) h
    obtain ⟨rfl, rfl, rfl⟩ : n = sgnN a ∧ c = o * 5 ^ q ∧ e = -(q : Int) + ((0 : Nat) : Int) := by cases hr; exact ⟨rfl, rfl, rfl⟩
    have hcz : o * 5 ^ q ≠ 0 := fun e => by rw [e] at h2; exact h2 rfl
    have hq5 : 0 < 5 ^ q := Nat.pow_pos (by decide)
    have e1 : (-(-(q : Int) + ((0 : Nat) : Int))).toNat = q := by omega
    have hf : fives (o * 5 ^ q) (-(q : Int) + ((0 : Nat) : Int)) = o * 2 ^ 0 := by
      rw [fives, if_pos (by omega), e1, Nat.mul_div_cancel _ hq5, Nat.pow_zero, Nat.mul_one]
    rw [ofDecR, if_neg hcz, if_neg (by rw [e1, Nat.mul_mod_left]; simp), hf, strp2_eq ho (by omega)]
    rw [show (-(q : Int) + ((0 : Nat) : Int) + (((o, 0) : Nat × Nat).2 : Int)) = exN a + t from by simp only; omega]
    exact unpack ha (by
      rcases Nat.eq_zero_or_pos (a / 4503599627370496 % 2048) with h1 | h1
      · rw [if_pos h1] at hxr; omega
      · exact h1) hm ho
end Go.Proofs.YtppapkpceejnkaaGreatDoor

namespace Go.Proofs.YtppapkpceejnkaaGreatDoor
open Go.Lib (decDigits nDigits)

theorem right_zero_is {n : Bool} {e : Int} (h : rightD n (decDigits 0) e = true) : n = false ∧ e = 0 := by
  rw [show decDigits 0 = [48] from by rw [Lib.decDigits_one (by omega)]; rfl, rightD_zero] at h
  simp only [Bool.and_eq_true, decide_eq_true_eq, Bool.not_eq_true'] at h
  exact ⟨h.2, h.1⟩
def big (m : Nat) : Nat := 10 ^ m
theorem right_c {n : Bool} {c : Nat} {e : Int} (h : rightD n (decDigits c) e = true) (hc : c ≠ 0) : c % 10 ≠ 0 ∧ c < big 100 ∧ -100 ≤ e ∧ e ≤ 100 := by
  have hne : decDigits c ≠ [48] := fun he => hc (by have := congrArg dv he; rw [dv_dec] at this; exact this)
  obtain ⟨g1, g2, g3, g4⟩ := right_num h hne
  rw [dv_dec] at g2 g3
  obtain ⟨_, _, h3, h4⟩ := right_parts h
  refine ⟨g2, ?_, h3, h4⟩
  have h5 := Lib.lt_pow_nDigits c
  exact Nat.lt_of_lt_of_le h5 (Nat.pow_le_pow_right (by decide) g3)
theorem pow_gen (m : Nat) : big m * 5 ^ m ≤ 2 ^ (7 * m) := by
  have h1 : big m ≤ (2 ^ 4) ^ m := Nat.pow_le_pow_left (by decide) m
  have h2 : (5 : Nat) ^ m ≤ (2 ^ 3) ^ m := Nat.pow_le_pow_left (by decide) m
  have h3 := Nat.mul_le_mul h1 h2
  rw [← Nat.pow_mul, ← Nat.pow_mul, ← Nat.pow_add, show 4 * m + 3 * m = 7 * m from by omega] at h3
  exact h3
theorem t_bound {c k o t m : Nat} (h : c * 5 ^ k = o * 2 ^ t) (hc : c < big m) (hk : k ≤ m) (h0 : o ≠ 0) : t < 7 * m := by
  refine pow_le_of (o := o) ?_ h0
  rw [← h]
  have h5 : 5 ^ k ≤ 5 ^ m := Nat.pow_le_pow_right (by decide) hk
  exact Nat.lt_of_lt_of_le (Nat.mul_lt_mul_of_lt_of_le hc h5 (Nat.pow_pos (by decide))) (pow_gen m)

theorem turn2 {n : Bool} {c b : Nat} {e : Int} (hr : rightD n (decDigits c) e = true) (h : ofDecR n c e = some b) : b < 18446744073709551616 ∧ isFin b = true ∧ decOf b = some (n, c, e) := by
  by_cases hz : c = 0
  · subst hz
    obtain ⟨rfl, rfl⟩ := right_zero_is hr
    rw [ofDecR, if_pos rfl] at h
    cases h
    exact ⟨by decide, by decide, by rw [decOf, if_pos (by decide)]⟩
  obtain ⟨h10, hc, he1, he2⟩ := right_c hr hz
  rw [ofDecR, if_neg hz] at h
  split at h
  · cases h
  rename_i hdiv
  obtain ⟨s, hs⟩ : ∃ s, s = fives c e := ⟨_, rfl⟩
  rw [← hs] at h
  by_cases hneg : e < 0
  · clear hc
    obtain ⟨q, hq, hq0⟩ : ∃ q : Nat, e = -(q : Int) ∧ 0 < q := ⟨(-e).toNat, by omega, by omega⟩
    have e1 : (-e).toNat = q := by omega
    have hmod : c % 5 ^ q = 0 := by
      rw [e1] at hdiv
      rcases Nat.eq_zero_or_pos (c % 5 ^ q) with h1 | h1
      · exact h1
      · exact absurd ⟨hneg, by omega⟩ hdiv
    have hsc : c = s * 5 ^ q := by
      rw [hs, fives, if_pos hneg, e1]
      exact (Nat.div_mul_cancel (Nat.dvd_of_mod_eq_zero hmod)).symm
    have hs0 : s ≠ 0 := fun h1 => by rw [h1, Nat.zero_mul] at hsc; exact hz hsc
    have hsodd : s % 2 ≠ 0 := by
      intro h1
      apply h10
      obtain ⟨u, hu⟩ : ∃ u, s = 2 * u := ⟨s / 2, by omega⟩
      rw [hsc, hu, show q = (q - 1) + 1 from by omega, Nat.pow_succ, show 2 * u * (5 ^ (q - 1) * 5) = u * 5 ^ (q - 1) * 10 from by rw [Nat.mul_comm 2 u, Nat.mul_assoc, Nat.mul_assoc, ← Nat.mul_assoc 2, Nat.mul_comm 2, Nat.mul_assoc], Nat.mul_mod_left]
    have hst := strp2_eq (k := 0) (f := 2000) hsodd (by omega)
    rw [Nat.pow_zero, Nat.mul_one] at hst
    rw [hst, packR] at h
    simp only at h
    split at h
    · cases h
    rename_i hlt
    obtain rfl := Option.some.inj h
    have hL : s.log2 ≤ 52 := (shifted hs0 (by omega)).1
    have hx1 : ¬ 0 ≤ e + ((0 : Nat) : Int) := by omega
    have hx2 : (-(e + ((0 : Nat) : Int))).toNat = q := by omega
    have hx3 : e + ((0 : Nat) : Int) = e := by omega
    have hmk := make_right (p := 0) (z := 0) hr (q := decDigits c) (by simp) (by
      have := (right_parts hr).2.1
      omega) (x := e) (by omega) (by omega) (by omega) (by omega)
    rw [dv_dec] at hmk
    obtain ⟨p1, p2, p3, p4, p5⟩ := pack_parts (n := n) (o := s) (X := e + ((0 : Nat) : Int)) hs0 (by omega) (by omega) (by omega)
    refine ⟨p1, p2, ?_⟩
    rw [decOf_parts p4 hsodd, p5, decX, if_neg hx1, p3, hx2, ← hsc, hx3]
    exact hmk
  · obtain ⟨k, rfl⟩ : ∃ k : Nat, e = k := ⟨e.toNat, by omega⟩
    have hsc : s = c * 5 ^ k := by rw [hs, fives, if_neg hneg, Int.toNat_natCast]
    have hs0 : s ≠ 0 := by
      rw [hsc]
      intro h1
      rcases Nat.mul_eq_zero.1 h1 with h2 | h2
      · exact hz h2
      · exact absurd h2 (Nat.ne_of_gt (Nat.pow_pos (by decide)))
    obtain ⟨o, t, ho1, ho⟩ := strip2 _ hs0
    have h0 : o ≠ 0 := fun e => by rw [e] at ho; exact ho rfl
    have ht : t < 7 * 100 := t_bound (by rw [← hsc]; exact ho1) hc (by omega) h0
    clear hc
    have hst := strp2_eq (k := t) (f := 2000) ho (by omega)
    rw [← ho1] at hst
    rw [hst, packR] at h
    simp only at h
    split at h
    · cases h
    rename_i hlt
    obtain rfl := Option.some.inj h
    have hL : o.log2 ≤ 52 := (shifted h0 (by omega)).1
    have hx1 : 0 ≤ (k : Int) + (t : Int) := by omega
    have hx2 : ((k : Int) + (t : Int)).toNat = t + k := by omega
    have hmk := make_right (p := 0) (z := k) hr (q := decDigits c ++ List.replicate k 48) (by simp) (by
      have := (right_parts hr).2.1
      rw [List.length_append, List.length_replicate]
      omega) (x := 0) (by omega) (by omega) (by omega) (by omega)
    rw [dv_dec] at hmk
    obtain ⟨p1, p2, p3, p4, p5⟩ := pack_parts (n := n) (o := o) (X := (k : Int) + (t : Int)) h0 (by omega) (by omega) (by omega)
    refine ⟨p1, p2, ?_⟩
    rw [decOf_parts p4 ho, p5, decX, if_pos hx1, p3, hx2, Nat.pow_add, ← Nat.mul_assoc, ← ho1, hsc, Nat.mul_assoc, ← Nat.mul_pow, show 5 * 2 = 10 from rfl, ← dec_zeros h10]
    exact hmk
end Go.Proofs.YtppapkpceejnkaaGreatDoor

namespace Go.Proofs.YtppapkpceejnkaaGreatDoor

/-- An odd number and a power of two. -/
def valN (m : Nat) (x : Int) : Nat × Int := if m = 0 then (0, 0) else ((strp2 2000 m).1, x + (strp2 2000 m).2)
def valP (p : Nat) (L : Int) (e f : Nat) : Nat × Int := if e = 0 then valN f L else valN (2 ^ p + f) (L + e - 1)
def plc (K p : Nat) (L : Int) (v : Nat × Int) : Option (Nat × Nat) :=
  if v.1 = 0 then some (0, 0)
  else if v.2 - L < 0 ∨ p + 1 < v.1.log2 + 1 ∨ (K : Int) ≤ v.2 - L + (v.1.log2 + 1 : Nat) - p then none
  else if v.2 - L + (v.1.log2 + 1 : Nat) - p ≤ 0 then some (0, v.1 * 2 ^ (v.2 - L).toNat)
  else some ((v.2 - L + (v.1.log2 + 1 : Nat) - p).toNat, v.1 * 2 ^ (p + 1 - (v.1.log2 + 1)) - 2 ^ p)
def OkV (v : Nat × Int) : Prop := (v.1 = 0 ∧ v.2 = 0) ∨ v.1 % 2 ≠ 0

theorem valN_zero (x : Int) : valN 0 x = (0, 0) := by rw [valN, if_pos rfl]
theorem valN_eq {m o t : Nat} {x : Int} (hm : m = o * 2 ^ t) (ho : o % 2 ≠ 0) (ht : t < 2000) : valN m x = (o, x + t) := by
  have h0 : o ≠ 0 := fun e => by rw [e] at ho; exact ho rfl
  have hne : m ≠ 0 := by
    rw [hm]
    intro e
    rcases Nat.mul_eq_zero.1 e with h | h
    · exact h0 h
    · exact absurd h (Nat.ne_of_gt (Nat.pow_pos (by decide)))
  rw [valN, if_neg hne, hm, strp2_eq ho ht]
theorem log2_mul {o t : Nat} (h0 : o ≠ 0) : (o * 2 ^ t).log2 = o.log2 + t := by
  have h1 : 2 ^ o.log2 ≤ o := Nat.log2_self_le h0
  have h2 : o < 2 ^ (o.log2 + 1) := Nat.lt_log2_self
  have hne : o * 2 ^ t ≠ 0 := Nat.mul_ne_zero h0 (Nat.ne_of_gt (Nat.pow_pos (by decide)))
  refine (Nat.log2_eq_iff hne).2 ⟨?_, ?_⟩
  · rw [Nat.pow_add]; exact Nat.mul_le_mul_right _ h1
  · rw [show o.log2 + t + 1 = (o.log2 + 1) + t from by omega, Nat.pow_add]
    exact Nat.mul_lt_mul_of_pos_right h2 (Nat.pow_pos (by decide))
/-- A value below 2^64, taken apart. -/
theorem val_parts {m : Nat} (h0 : m ≠ 0) (h : m < 2 ^ 64) (x : Int) : ∃ o t : Nat, m = o * 2 ^ t ∧ o % 2 ≠ 0 ∧ o ≠ 0 ∧ t < 64 ∧ valN m x = (o, x + t) ∧ m.log2 = o.log2 + t := by
  obtain ⟨o, t, hm, ho⟩ := strip2 m h0
  have ho0 : o ≠ 0 := fun e => by rw [e] at ho; exact ho rfl
  have ht : t < 64 := pow_le_of (by rw [← hm]; exact h) ho0
  exact ⟨o, t, hm, ho, ho0, ht, valN_eq hm ho (by omega), by rw [hm, log2_mul ho0]⟩
theorem valN_shift {m j : Nat} {x : Int} (h : m < 2 ^ 64) (hj : j ≤ 64) : valN (m * 2 ^ j) (x - j) = valN m x := by
  by_cases h0 : m = 0
  · subst h0; rw [Nat.zero_mul, valN_zero, valN_zero]
  · obtain ⟨o, t, hm, ho, _, ht, hv, _⟩ := val_parts h0 h x
    rw [hv, valN_eq (o := o) (t := t + j) (by rw [hm, Nat.pow_add, Nat.mul_assoc]) ho (by omega)]
    congr 1
    omega

theorem log2_bits {m p : Nat} (h1 : 2 ^ p ≤ m) (h2 : m < 2 ^ (p + 1)) : m.log2 = p := by
  have hne : m ≠ 0 := by have := Nat.pow_pos (n := p) (show 0 < 2 by decide); omega
  exact (Nat.log2_eq_iff hne).2 ⟨h1, h2⟩

/-- What is placed has that value. -/
theorem plc_val {K p e f : Nat} {L : Int} {v : Nat × Int} (hp : p ≤ 60) (hK : 0 < K) (hv : OkV v) (h : plc K p L v = some (e, f)) : e < K ∧ f < 2 ^ p ∧ valP p L e f = v := by
  obtain ⟨o, t⟩ := v
  rcases hv with ⟨h1, h2⟩ | hv
  · simp only at h1 h2
    subst h1 h2
    rw [plc, if_pos rfl] at h
    cases h
    exact ⟨hK, Nat.pow_pos (by decide), by rw [valP, if_pos rfl, valN_zero]⟩
  · simp only at hv
    have ho0 : o ≠ 0 := fun e => by rw [e] at hv; exact hv rfl
    have b1 : 2 ^ o.log2 ≤ o := Nat.log2_self_le ho0
    have b2 : o < 2 ^ (o.log2 + 1) := Nat.lt_log2_self
    rw [plc, if_neg ho0] at h
    simp only at h
    split at h
    · cases h
    · rename_i hb
      simp only [not_or, Int.not_lt, Nat.not_lt, Int.not_le] at hb
      obtain ⟨hb1, hb2, hb3⟩ := hb
      obtain ⟨S, hS⟩ : ∃ S : Nat, t - L = (S : Int) := ⟨(t - L).toNat, by omega⟩
      split at h
      · rename_i hx
        cases h
        rw [hS, Int.toNat_natCast]
        refine ⟨hK, ?_, ?_⟩
        · refine Nat.lt_of_lt_of_le (Nat.mul_lt_mul_of_pos_right b2 (Nat.pow_pos (by decide))) ?_
          rw [← Nat.pow_add]
          exact Nat.pow_le_pow_right (by decide) (by omega)
        · rw [valP, if_pos rfl, valN_eq (o := o) (t := S) rfl hv (by omega)]
          congr 1
          omega
      · rename_i hx
        cases h
        have hq : 2 ^ p ≤ o * 2 ^ (p + 1 - (o.log2 + 1)) := by
          refine Nat.le_trans (Nat.le_of_eq ?_) (Nat.mul_le_mul_right _ b1)
          rw [← Nat.pow_add]
          congr 1
          omega
        have hr : o * 2 ^ (p + 1 - (o.log2 + 1)) < 2 ^ (p + 1) := by
          refine Nat.lt_of_lt_of_eq (Nat.mul_lt_mul_of_pos_right b2 (Nat.pow_pos (by decide))) ?_
          rw [← Nat.pow_add]
          congr 1
          omega
        rw [Nat.pow_succ] at hr
        refine ⟨by omega, by omega, ?_⟩
        rw [valP, if_neg (by omega), Nat.add_sub_cancel' hq, valN_eq (o := o) (t := p + 1 - (o.log2 + 1)) rfl hv (by omega)]
        congr 1
        omega

theorem valN_ok {m : Nat} (h : m < 2 ^ 64) (x : Int) : OkV (valN m x) := by
  by_cases h0 : m = 0
  · subst h0; rw [valN_zero]; exact .inl ⟨rfl, rfl⟩
  · obtain ⟨o, t, _, ho, _, _, hv, _⟩ := val_parts h0 h x
    rw [hv]; exact .inr ho
theorem valP_ok {p e f : Nat} {L : Int} (hp : p ≤ 60) (hf : f < 2 ^ p) : OkV (valP p L e f) := by
  have h1 : 2 ^ p ≤ 2 ^ 60 := Nat.pow_le_pow_right (by decide) hp
  have h2 : (2 : Nat) ^ 60 = 1152921504606846976 := by decide
  have h3 : (2 : Nat) ^ 64 = 18446744073709551616 := by decide
  rw [valP]
  split
  · exact valN_ok (by omega) _
  · exact valN_ok (by omega) _
/-- What has a value is placed so. -/
theorem val_plc {K p e f : Nat} {L : Int} (hp : p ≤ 60) (he : e < K) (hf : f < 2 ^ p) : plc K p L (valP p L e f) = some (e, f) := by
  have h1 : 2 ^ p ≤ 2 ^ 60 := Nat.pow_le_pow_right (by decide) hp
  have h2 : (2 : Nat) ^ 60 = 1152921504606846976 := by decide
  have h3 : (2 : Nat) ^ 64 = 18446744073709551616 := by decide
  rw [valP]
  split
  · rename_i he0
    subst he0
    by_cases hf0 : f = 0
    · subst hf0; rw [valN_zero, plc, if_pos rfl]
    · obtain ⟨o, t, hm, ho, ho0, ht, hv, hl⟩ := val_parts hf0 (by omega) L
      have hlt : f.log2 < p := (Nat.log2_lt hf0).2 hf
      rw [hv, plc, if_neg ho0]
      simp only
      rw [if_neg (by simp only [not_or, Int.not_lt, Nat.not_lt, Int.not_le]; refine ⟨by omega, by omega, by omega⟩), if_pos (by omega), show L + (t : Int) - L = (t : Int) from by omega, Int.toNat_natCast, ← hm]
  · rename_i he0
    have hlog : (2 ^ p + f).log2 = p := log2_bits (by omega) (by rw [Nat.pow_succ]; omega)
    obtain ⟨o, t, hm, ho, ho0, ht, hv, hl⟩ := val_parts (m := 2 ^ p + f) (by have := Nat.pow_pos (n := p) (show 0 < 2 by decide); omega) (by omega) (L + e - 1)
    rw [hv, plc, if_neg ho0]
    simp only
    rw [if_neg (by simp only [not_or, Int.not_lt, Nat.not_lt, Int.not_le]; refine ⟨by omega, by omega, by omega⟩), if_neg (by omega), show p + 1 - (o.log2 + 1) = t from by omega, ← hm]
    congr 1
    refine Prod.ext ?_ ?_
    · simp only; omega
    · simp only; omega

/-- Bits of one form as those of another one; K1 is 2 to the power of the exponent's digits. -/
def jn (K1 p s e f : Nat) : Nat := (s * K1 + e) * 2 ^ p + f
def trn (K1 p : Nat) (L : Int) (K2 q : Nat) (M : Int) (b : Nat) : Option Nat :=
  if b / 2 ^ p % K1 = K1 - 1 then
    if b % 2 ^ p * 2 ^ (64 - p) * 2 ^ q % 2 ^ 64 = 0 then some (jn K2 q (b / 2 ^ p / K1) (K2 - 1) (b % 2 ^ p * 2 ^ (64 - p) / 2 ^ (64 - q))) else none
  else (plc (K2 - 1) q M (valP p L (b / 2 ^ p % K1) (b % 2 ^ p))).map fun v => jn K2 q (b / 2 ^ p / K1) v.1 v.2
def Rel (K1 p : Nat) (L : Int) (K2 q : Nat) (M : Int) (b c : Nat) : Prop :=
  b / 2 ^ p / K1 = c / 2 ^ q / K2 ∧
  ((b / 2 ^ p % K1 = K1 - 1 ∧ c / 2 ^ q % K2 = K2 - 1 ∧ b % 2 ^ p * 2 ^ (64 - p) = c % 2 ^ q * 2 ^ (64 - q)) ∨
   (b / 2 ^ p % K1 ≠ K1 - 1 ∧ c / 2 ^ q % K2 ≠ K2 - 1 ∧ valP p L (b / 2 ^ p % K1) (b % 2 ^ p) = valP q M (c / 2 ^ q % K2) (c % 2 ^ q)))
theorem Rel.symm {K1 p K2 q b c : Nat} {L M : Int} (h : Rel K1 p L K2 q M b c) : Rel K2 q M K1 p L c b := by
  obtain ⟨h1, h2⟩ := h
  refine ⟨h1.symm, ?_⟩
  rcases h2 with ⟨a, b, c⟩ | ⟨a, b, c⟩
  · exact .inl ⟨b, a, c.symm⟩
  · exact .inr ⟨b, a, c.symm⟩
theorem jn_parts {K1 p s e f : Nat} (he : e < K1) (hf : f < 2 ^ p) : jn K1 p s e f / 2 ^ p / K1 = s ∧ jn K1 p s e f / 2 ^ p % K1 = e ∧ jn K1 p s e f % 2 ^ p = f := by
  have hp : 0 < 2 ^ p := Nat.pow_pos (by decide)
  have h1 : jn K1 p s e f / 2 ^ p = s * K1 + e := by rw [jn, Nat.add_comm, Nat.add_mul_div_right _ _ hp, Nat.div_eq_of_lt hf, Nat.zero_add]
  refine ⟨?_, ?_, ?_⟩
  · rw [h1, Nat.add_comm, Nat.add_mul_div_right _ _ (by omega), Nat.div_eq_of_lt he, Nat.zero_add]
  · rw [h1, Nat.add_comm, Nat.add_mul_mod_self_right, Nat.mod_eq_of_lt he]
  · rw [jn, Nat.add_comm, Nat.add_mul_mod_self_right, Nat.mod_eq_of_lt hf]
theorem jn_self (K1 p b : Nat) : jn K1 p (b / 2 ^ p / K1) (b / 2 ^ p % K1) (b % 2 ^ p) = b := by
  rw [jn, Nat.mul_comm (b / 2 ^ p / K1) K1, Nat.div_add_mod, Nat.mul_comm, Nat.div_add_mod]
theorem trn_iff {K1 p K2 q b c : Nat} {L M : Int} (hp : p ≤ 60) (hq : q ≤ 60) (hK1 : 2 ≤ K1) (hK2 : 2 ≤ K2) : trn K1 p L K2 q M b = some c ↔ Rel K1 p L K2 q M b c := by
  have hfp : b % 2 ^ p < 2 ^ p := Nat.mod_lt _ (Nat.pow_pos (by decide))
  have hfq : c % 2 ^ q < 2 ^ q := Nat.mod_lt _ (Nat.pow_pos (by decide))
  have hec : c / 2 ^ q % K2 < K2 := Nat.mod_lt _ (by omega)
  have heb : b / 2 ^ p % K1 < K1 := Nat.mod_lt _ (by omega)
  have h64p : 2 ^ (64 - p) * 2 ^ p = 2 ^ 64 := by rw [← Nat.pow_add]; congr 1; omega
  have h64q : 2 ^ (64 - q) * 2 ^ q = 2 ^ 64 := by rw [← Nat.pow_add]; congr 1; omega
  have hpq : 0 < 2 ^ (64 - q) := Nat.pow_pos (by decide)
  constructor
  · intro h
    rw [trn] at h
    split at h
    · rename_i hx
      split at h
      · rename_i hy
        cases h
        obtain ⟨d, hd⟩ : 2 ^ (64 - q) ∣ b % 2 ^ p * 2 ^ (64 - p) := by
          have h5 : 2 ^ (64 - q) * 2 ^ q ∣ b % 2 ^ p * 2 ^ (64 - p) * 2 ^ q := by rw [h64q]; exact Nat.dvd_of_mod_eq_zero hy
          exact Nat.dvd_of_mul_dvd_mul_right (Nat.pow_pos (by decide)) h5
        have hdv : b % 2 ^ p * 2 ^ (64 - p) / 2 ^ (64 - q) = d := by rw [hd, Nat.mul_div_cancel_left _ hpq]
        have hdl : d < 2 ^ q := by
          have h6 : b % 2 ^ p * 2 ^ (64 - p) < 2 ^ p * 2 ^ (64 - p) := Nat.mul_lt_mul_of_pos_right hfp (Nat.pow_pos (by decide))
          rw [Nat.mul_comm (2 ^ p), h64p, ← h64q, hd] at h6
          exact Nat.lt_of_mul_lt_mul_left h6
        obtain ⟨j1, j2, j3⟩ := jn_parts (K1 := K2) (p := q) (s := b / 2 ^ p / K1) (e := K2 - 1) (f := d) (by omega) hdl
        rw [hdv]
        refine ⟨j1.symm, .inl ⟨hx, j2, ?_⟩⟩
        rw [j3, hd, Nat.mul_comm]
      · cases h
    · rename_i hx
      cases hpl : plc (K2 - 1) q M (valP p L (b / 2 ^ p % K1) (b % 2 ^ p)) with
      | none => rw [hpl] at h; cases h
      | some v =>
        rw [hpl] at h
        obtain ⟨e, f⟩ := v
        simp only [Option.map_some, Option.some.injEq] at h
        obtain ⟨g1, g2, g3⟩ := plc_val hq (by omega) (valP_ok hp hfp) hpl
        obtain ⟨j1, j2, j3⟩ := jn_parts (K1 := K2) (p := q) (s := b / 2 ^ p / K1) (e := e) (f := f) (by omega) g2
        rw [h] at j1 j2 j3
        refine ⟨j1.symm, .inr ⟨hx, by omega, ?_⟩⟩
        rw [j2, j3, g3]
  · rintro ⟨h1, h2 | h2⟩
    · obtain ⟨h2, h3, h4⟩ := h2
      rw [trn, if_pos h2, h4, if_pos (by rw [Nat.mul_assoc, h64q, Nat.mul_mod_left]), Nat.mul_div_cancel _ hpq, ← h3, h1, jn_self]
    · obtain ⟨h2, h3, h4⟩ := h2
      rw [trn, if_neg h2, h4, val_plc hq (by omega) hfq, Option.map_some, h1]
      simp only
      rw [jn_self]
theorem trn_symm {K1 p K2 q b c : Nat} {L M : Int} (hp : p ≤ 60) (hq : q ≤ 60) (hK1 : 2 ≤ K1) (hK2 : 2 ≤ K2) (h : trn K1 p L K2 q M b = some c) : trn K2 q M K1 p L c = some b :=
  (trn_iff hq hp hK2 hK1).2 ((trn_iff hp hq hK1 hK2).1 h).symm
end Go.Proofs.YtppapkpceejnkaaGreatDoor

namespace Go.Proofs.YtppapkpceejnkaaGreatDoor

theorem e10 : (2 : Nat) ^ 10 = 1024 := by decide
theorem e23 : (2 : Nat) ^ 23 = 8388608 := by decide
theorem e52 : (2 : Nat) ^ 52 = 4503599627370496 := by decide
theorem e54 : (2 : Nat) ^ (64 - 10) = 18014398509481984 := by decide
theorem e41 : (2 : Nat) ^ (64 - 23) = 2199023255552 := by decide
theorem e12 : (2 : Nat) ^ (64 - 52) = 4096 := by decide
theorem e64 : (2 : Nat) ^ 64 = 18446744073709551616 := by decide

theorem wid16_trn {b : Nat} (_hb : b < 65536) : trn 32 10 (-24) 2048 52 (-1074) b = some (wid16 b) := by
  rw [trn_iff (by decide) (by decide) (by decide) (by decide), Rel, e10, e52, e54, e12]
  obtain ⟨e, he⟩ : ∃ e, e = b / 1024 % 32 := ⟨_, rfl⟩
  obtain ⟨f, hf⟩ : ∃ f, f = b % 1024 := ⟨_, rfl⟩
  obtain ⟨s, hs⟩ : ∃ s, s = b / 32768 := ⟨_, rfl⟩
  have hs1 : b / 1024 / 32 = s := by omega
  have hf1 : f < 1024 := by omega
  have he1 : e < 32 := by omega
  by_cases h31 : e = 31
  · have hw : wid16 b = s * 9223372036854775808 + 2047 * 4503599627370496 + f * 4398046511104 := by rw [wid16, ← he, if_pos h31, ← hs, ← hf]
    rw [hw, hs1, ← he, ← hf]
    exact ⟨by omega, .inl ⟨by omega, by omega, by omega⟩⟩
  · by_cases h0 : e = 0
    · by_cases hf0 : f = 0
      · have hw : wid16 b = s * 9223372036854775808 := by rw [wid16, ← he, if_neg h31, if_pos h0, ← hf, if_pos hf0, ← hs]
        rw [hw, hs1, ← he, ← hf, h0, hf0]
        refine ⟨by omega, .inr ⟨by omega, by omega, ?_⟩⟩
        rw [show s * 9223372036854775808 / 4503599627370496 % 2048 = 0 from by omega, show s * 9223372036854775808 % 4503599627370496 = 0 from by omega, valP, if_pos rfl, valP, if_pos rfl, valN_zero, valN_zero]
      · obtain ⟨j, hj, hj1, hj2, hj3⟩ := log_cases16 hf0 hf1
        obtain ⟨g1, g2, g3⟩ := shifted hf0 (show f < 9007199254740992 by omega)
        rw [hj] at g1 g2 g3
        have hw : wid16 b = s * 9223372036854775808 + (999 + j) * 4503599627370496 + (f * 2 ^ (52 - j) - 4503599627370496) := by rw [wid16, ← he, if_neg h31, if_pos h0, ← hf, if_neg hf0, ← hs, hj]
        obtain ⟨G, hG⟩ : ∃ G, G = f * 2 ^ (52 - j) := ⟨_, rfl⟩
        rw [← hG] at g2 g3 hw
        rw [hw, hs1, ← he, ← hf, h0]
        refine ⟨by omega, .inr ⟨by omega, by omega, ?_⟩⟩
        rw [show (s * 9223372036854775808 + (999 + j) * 4503599627370496 + (G - 4503599627370496)) / 4503599627370496 % 2048 = 999 + j from by omega, show (s * 9223372036854775808 + (999 + j) * 4503599627370496 + (G - 4503599627370496)) % 4503599627370496 = G - 4503599627370496 from by omega, valP, if_pos rfl, valP, if_neg (by omega), e52, show 4503599627370496 + (G - 4503599627370496) = G from by omega, hG,
          show (-1074 : Int) + ((999 + j : Nat) : Int) - 1 = -24 - ((52 - j : Nat) : Int) from by omega, valN_shift (by rw [e64]; omega) (by omega)]
    · have hw : wid16 b = s * 9223372036854775808 + (e + 1008) * 4503599627370496 + f * 4398046511104 := by rw [wid16, ← he, if_neg h31, if_neg h0, ← hf, ← hs]
      rw [hw, hs1, ← he, ← hf]
      refine ⟨by omega, .inr ⟨by omega, by omega, ?_⟩⟩
      rw [show (s * 9223372036854775808 + (e + 1008) * 4503599627370496 + f * 4398046511104) / 4503599627370496 % 2048 = e + 1008 from by omega, show (s * 9223372036854775808 + (e + 1008) * 4503599627370496 + f * 4398046511104) % 4503599627370496 = f * 4398046511104 from by omega, valP, if_neg h0, valP, if_neg (by omega), e52, e10, show 4503599627370496 + f * 4398046511104 = (1024 + f) * 2 ^ 42 from by omega,
        show (-1074 : Int) + ((e + 1008 : Nat) : Int) - 1 = (-24 + (e : Int) - 1) - (42 : Nat) from by omega, valN_shift (by rw [e64]; omega) (by decide)]
theorem wid32_trn {b : Nat} (_hb : b < 4294967296) : trn 256 23 (-149) 2048 52 (-1074) b = some (wid32 b) := by
  rw [trn_iff (by decide) (by decide) (by decide) (by decide), Rel, e23, e52, e41, e12]
  obtain ⟨e, he⟩ : ∃ e, e = b / 8388608 % 256 := ⟨_, rfl⟩
  obtain ⟨f, hf⟩ : ∃ f, f = b % 8388608 := ⟨_, rfl⟩
  obtain ⟨s, hs⟩ : ∃ s, s = b / 2147483648 := ⟨_, rfl⟩
  have hs1 : b / 8388608 / 256 = s := by omega
  have hf1 : f < 8388608 := by omega
  have he1 : e < 256 := by omega
  by_cases h31 : e = 255
  · have hw : wid32 b = s * 9223372036854775808 + 2047 * 4503599627370496 + f * 536870912 := by rw [wid32, ← he, if_pos h31, ← hs, ← hf]
    rw [hw, hs1, ← he, ← hf]
    exact ⟨by omega, .inl ⟨by omega, by omega, by omega⟩⟩
  · by_cases h0 : e = 0
    · by_cases hf0 : f = 0
      · have hw : wid32 b = s * 9223372036854775808 := by rw [wid32, ← he, if_neg h31, if_pos h0, ← hf, if_pos hf0, ← hs]
        rw [hw, hs1, ← he, ← hf, h0, hf0]
        refine ⟨by omega, .inr ⟨by omega, by omega, ?_⟩⟩
        rw [show s * 9223372036854775808 / 4503599627370496 % 2048 = 0 from by omega, show s * 9223372036854775808 % 4503599627370496 = 0 from by omega, valP, if_pos rfl, valP, if_pos rfl, valN_zero, valN_zero]
      · obtain ⟨j, hj, hj1, hj2, hj3⟩ := log_cases32 hf0 hf1
        obtain ⟨g1, g2, g3⟩ := shifted hf0 (show f < 9007199254740992 by omega)
        rw [hj] at g1 g2 g3
        have hw : wid32 b = s * 9223372036854775808 + (874 + j) * 4503599627370496 + (f * 2 ^ (52 - j) - 4503599627370496) := by rw [wid32, ← he, if_neg h31, if_pos h0, ← hf, if_neg hf0, ← hs, hj]
        obtain ⟨G, hG⟩ : ∃ G, G = f * 2 ^ (52 - j) := ⟨_, rfl⟩
        rw [← hG] at g2 g3 hw
        rw [hw, hs1, ← he, ← hf, h0]
        refine ⟨by omega, .inr ⟨by omega, by omega, ?_⟩⟩
        rw [show (s * 9223372036854775808 + (874 + j) * 4503599627370496 + (G - 4503599627370496)) / 4503599627370496 % 2048 = 874 + j from by omega, show (s * 9223372036854775808 + (874 + j) * 4503599627370496 + (G - 4503599627370496)) % 4503599627370496 = G - 4503599627370496 from by omega, valP, if_pos rfl, valP, if_neg (by omega), e52, show 4503599627370496 + (G - 4503599627370496) = G from by omega, hG,
          show (-1074 : Int) + ((874 + j : Nat) : Int) - 1 = -149 - ((52 - j : Nat) : Int) from by omega, valN_shift (by rw [e64]; omega) (by omega)]
    · have hw : wid32 b = s * 9223372036854775808 + (e + 896) * 4503599627370496 + f * 536870912 := by rw [wid32, ← he, if_neg h31, if_neg h0, ← hf, ← hs]
      rw [hw, hs1, ← he, ← hf]
      refine ⟨by omega, .inr ⟨by omega, by omega, ?_⟩⟩
      rw [show (s * 9223372036854775808 + (e + 896) * 4503599627370496 + f * 536870912) / 4503599627370496 % 2048 = e + 896 from by omega, show (s * 9223372036854775808 + (e + 896) * 4503599627370496 + f * 536870912) % 4503599627370496 = f * 536870912 from by omega, valP, if_neg h0, valP, if_neg (by omega), e52, e23, show 4503599627370496 + f * 536870912 = (8388608 + f) * 2 ^ 29 from by omega,
        show (-1074 : Int) + ((e + 896 : Nat) : Int) - 1 = (-149 + (e : Int) - 1) - (29 : Nat) from by omega, valN_shift (by rw [e64]; omega) (by decide)]
theorem id64_trn (b : Nat) : trn 2048 52 (-1074) 2048 52 (-1074) b = some b := by
  rw [trn_iff (by decide) (by decide) (by decide) (by decide), Rel]
  refine ⟨rfl, ?_⟩
  by_cases h : b / 2 ^ 52 % 2048 = 2048 - 1
  · exact .inl ⟨h, h, rfl⟩
  · exact .inr ⟨h, h, rfl⟩
theorem lt_of_sign {K p b s : Nat} (hK : 0 < K) (h : b / 2 ^ p / K < s) : b < s * K * 2 ^ p := by
  have h1 : b / 2 ^ p < s * K := (Nat.div_lt_iff_lt_mul hK).1 h
  exact (Nat.div_lt_iff_lt_mul (Nat.pow_pos (by decide))).1 h1
theorem nar16_trn {a : Nat} (ha : a < 18446744073709551616) : trn 2048 52 (-1074) 32 10 (-24) a = narO a 16 := by
  rw [narO, if_pos rfl]
  cases h : trn 2048 52 (-1074) 32 10 (-24) a with
  | some b =>
    have hs := ((trn_iff (by decide) (by decide) (by decide) (by decide)).1 h).1
    have hb : b < 65536 := by
      have := lt_of_sign (K := 32) (p := 10) (b := b) (s := 2) (by decide) (by rw [← hs, e52]; omega)
      rw [e10] at this; omega
    have h2 := trn_symm (by decide) (by decide) (by decide) (by decide) h
    rw [wid16_trn hb] at h2
    have h3 : wid16 b = a := Option.some.inj h2
    rw [← h3, (nar_wid16 hb).1, if_pos rfl]
  | none =>
    split
    · rename_i hx
      have hb := nar_lt16 ha hx
      have h2 := wid16_trn hb
      rw [hx] at h2
      rw [trn_symm (by decide) (by decide) (by decide) (by decide) h2] at h
      cases h
    · rfl
theorem nar32_trn {a : Nat} (ha : a < 18446744073709551616) : trn 2048 52 (-1074) 256 23 (-149) a = narO a 32 := by
  rw [narO, if_neg (by decide), if_pos rfl]
  cases h : trn 2048 52 (-1074) 256 23 (-149) a with
  | some b =>
    have hs := ((trn_iff (by decide) (by decide) (by decide) (by decide)).1 h).1
    have hb : b < 4294967296 := by
      have := lt_of_sign (K := 256) (p := 23) (b := b) (s := 2) (by decide) (by rw [← hs, e52]; omega)
      rw [e23] at this; omega
    have h2 := trn_symm (by decide) (by decide) (by decide) (by decide) h
    rw [wid32_trn hb] at h2
    have h3 : wid32 b = a := Option.some.inj h2
    rw [← h3, (nar_wid32 hb).1, if_pos rfl]
  | none =>
    split
    · rename_i hx
      have hb := nar_lt32 ha hx
      have h2 := wid32_trn hb
      rw [hx] at h2
      rw [trn_symm (by decide) (by decide) (by decide) (by decide) h2] at h
      cases h
    · rfl
end Go.Proofs.YtppapkpceejnkaaGreatDoor

namespace Go.Proofs.YtppapkpceejnkaaGreatDoor
open Go.Lib (decDigits nDigits)

/-- The decimal of an odd number times a power of two. -/
def decW (n : Bool) (v : Nat × Int) : Option (Bool × Nat × Int) :=
  if 0 ≤ v.2 then makeR n (decDigits (v.1 * 2 ^ v.2.toNat)) 0 else makeR n (decDigits (v.1 * 5 ^ (-v.2).toNat)) v.2

theorem make_zero (n : Bool) (x : Int) (h1 : -1000 ≤ x) (h2 : x ≤ 1000) : makeR n (decDigits 0) x = some (false, 0, 0) := by
  rw [show decDigits 0 = [48] from by rw [Lib.decDigits_one (by omega)]; rfl, makeR, if_neg (by simp only [not_or]; exact ⟨by decide, by decide, by omega, by omega, by decide⟩), if_pos (by decide)]

/-- Far powers have no right decimal. -/
theorem far_two {n : Bool} {o X : Nat} (ho : o % 2 ≠ 0) (h53 : o < 2 ^ 53) (hX : 400 < X) : makeR n (decDigits (o * 2 ^ X)) 0 = none := by
  cases h : makeR n (decDigits (o * 2 ^ X)) 0 with
  | none => rfl
  | some r =>
    exfalso
    have h0 : o ≠ 0 := fun e => by rw [e] at ho; exact ho rfl
    have hNz : o * 2 ^ X ≠ 0 := Nat.mul_ne_zero h0 (Nat.ne_of_gt (Nat.pow_pos (by decide)))
    obtain ⟨c, k, hc0, hc1⟩ := strip _ hNz
    obtain ⟨_, hd, _, hk⟩ := make_num hc0 hc1 h
    have hcz : c ≠ 0 := fun e => by rw [e] at hc1; exact hc1 rfl
    have h10 : o * 2 ^ X = c * 5 ^ k * 2 ^ k := by rw [hc0, show (10 : Nat) = 5 * 2 from rfl, Nat.mul_pow, Nat.mul_assoc]
    have hs : c * 5 ^ k = o * 2 ^ (X - k) := by
      rw [show X = X - k + k from by omega, Nat.pow_add, ← Nat.mul_assoc] at h10
      exact (Nat.eq_of_mul_eq_mul_right (show 0 < 2 ^ k from Nat.pow_pos (by decide)) h10).symm
    have hdv : 5 ^ k ∣ o := by
      have h1 : 5 ^ k ∣ o * 2 ^ (X - k) := ⟨c, by rw [← hs, Nat.mul_comm]⟩
      exact (Nat.Coprime.pow k (X - k) (show Nat.Coprime 5 2 by decide)).dvd_of_dvd_mul_right h1
    obtain ⟨u, hu⟩ := hdv
    have hu0 : 0 < u := by
      rcases Nat.eq_zero_or_pos u with h1 | h1
      · rw [h1, Nat.mul_zero] at hu; exact absurd hu h0
      · exact h1
    have hk23 : k < 23 := by
      rcases Nat.lt_or_ge k 23 with h1 | h1
      · exact h1
      · exfalso
        have h2 : (5 : Nat) ^ 23 ≤ 5 ^ k := Nat.pow_le_pow_right (by decide) h1
        have h3 : 5 ^ k ≤ o := by rw [hu]; exact Nat.le_mul_of_pos_right _ hu0
        have h4 : (2 : Nat) ^ 53 < 5 ^ 23 := by decide
        omega
    have hcu : c = u * 2 ^ (X - k) := by
      rw [hu, Nat.mul_assoc, Nat.mul_comm c] at hs
      exact Nat.eq_of_mul_eq_mul_left (Nat.pow_pos (by decide)) hs
    have hlt := Lib.lt_pow_nDigits c
    have h5 : 10 ^ nDigits c ≤ 10 ^ 100 := Nat.pow_le_pow_right (by decide) hd
    obtain ⟨E, hE⟩ : ∃ E, E = 34 := ⟨_, rfl⟩
    have h6 : 2 ^ (10 * E) ≤ 2 ^ (X - k) := Nat.pow_le_pow_right (by decide) (by clear h5 hlt hcu hs hc0 h10 h hNz h53 hu; omega)
    have h7 : 2 ^ (X - k) ≤ c := by rw [hcu]; exact Nat.le_mul_of_pos_left _ hu0
    have h8 : (10 : Nat) ^ 100 ≤ 2 ^ (10 * E) := by
      have h9 : (10 : Nat) ^ 100 ≤ 10 ^ (3 * E) := Nat.pow_le_pow_right (by decide) (by omega)
      have h11 : ((10 : Nat) ^ 3) ^ E ≤ (2 ^ 10) ^ E := Nat.pow_le_pow_left (by decide) E
      rw [← Nat.pow_mul, ← Nat.pow_mul] at h11
      exact Nat.le_trans h9 h11
    exact absurd (Nat.lt_of_lt_of_le hlt h5) (Nat.not_lt.2 (Nat.le_trans h8 (Nat.le_trans h6 h7)))
theorem far_five {n : Bool} {o q : Nat} (ho : o % 2 ≠ 0) (hq : 400 < q) : makeR n (decDigits (o * 5 ^ q)) (-(q : Int)) = none := by
  cases h : makeR n (decDigits (o * 5 ^ q)) (-(q : Int)) with
  | none => rfl
  | some r =>
    exfalso
    have h1 := odd5 o q ho
    obtain ⟨_, _, hk, _⟩ := make_num (N := o * 5 ^ q) (c := o * 5 ^ q) (k := 0) (by simp) (by omega) h
    omega
theorem lim_ge (n : Nat) (h : nDigits n ≤ 400) : n < lim := (lim_iff n).1 h
def cap7 (m : Nat) : Nat := 2 ^ (7 * m)

/-- A float's value and its decimal. -/
theorem val_of (a : Nat) : valP 52 (-1074) (a / 4503599627370496 % 2048) (a % 4503599627370496) = valN (mantN a) (exN a) := by
  rw [valP, mantN, exN, e52]
  split
  · rfl
  · rw [Nat.add_comm, show (-1074 : Int) + ((a / 4503599627370496 % 2048 : Nat) : Int) - 1 = ((a / 4503599627370496 % 2048 : Nat) : Int) - 1075 from by omega]
theorem dec_val (a : Nat) : decW (sgnN a) (valP 52 (-1074) (a / 4503599627370496 % 2048) (a % 4503599627370496)) = decOf a := by
  rw [val_of]
  by_cases hz : mantN a = 0
  · rw [hz, valN_zero, decOf, if_pos hz, decW, if_pos (by decide)]
    exact make_zero _ 0 (by decide) (by decide)
  · have hm := mant_lt a
    obtain ⟨o, t, hm, ho, _, ht, hv, _⟩ := val_parts hz (Nat.lt_trans hm (by decide)) (exN a)
    rw [hv, decOf_parts hm ho]
    rfl
theorem val_bounds (a : Nat) : ∃ (o : Nat) (X : Int), valP 52 (-1074) (a / 4503599627370496 % 2048) (a % 4503599627370496) = (o, X) ∧ o < 2 ^ 53 ∧ -1074 ≤ X ∧ X ≤ 1100 ∧ (o % 2 ≠ 0 ∨ (o = 0 ∧ X = 0)) := by
  rw [val_of]
  by_cases hz : mantN a = 0
  · rw [hz, valN_zero]; exact ⟨0, 0, rfl, by decide, by decide, by decide, .inr ⟨rfl, rfl⟩⟩
  · have hm := mant_lt a
    obtain ⟨o, t, hm2, ho, ho0, ht, hv, _⟩ := val_parts hz (Nat.lt_trans hm (by decide)) (exN a)
    refine ⟨o, exN a + t, hv, ?_, ?_, ?_, .inl ho⟩
    · refine Nat.lt_of_le_of_lt ?_ hm
      rw [hm2]; exact Nat.le_mul_of_pos_right _ (Nat.pow_pos (by decide))
    · rw [exN]; split <;> omega
    · rw [exN]; split <;> omega

/-- Bytes: a number without the zeros at its end. -/
theorem fives_right {n : Bool} {c m : Nat} {e : Int} (hm : m = 100) (hr : rightD n (decDigits c) e = true) (hc : c ≠ 0) (hd : ¬ (e < 0 ∧ c % 5 ^ (-e).toNat ≠ 0)) : fives c e ≠ 0 ∧ fives c e < cap7 m ∧ -100 ≤ e ∧ e ≤ 100 := by
  obtain ⟨h10, hcb, he1, he2⟩ := right_c hr hc
  have hp := pow_gen m
  rw [← hm] at hcb
  rw [fives]
  split
  · rename_i hneg
    have hmod : c % 5 ^ (-e).toNat = 0 := by
      rcases Nat.eq_zero_or_pos (c % 5 ^ (-e).toNat) with h1 | h1
      · exact h1
      · exact absurd ⟨hneg, by omega⟩ hd
    have h1 := Nat.div_mul_cancel (Nat.dvd_of_mod_eq_zero hmod)
    refine ⟨fun h2 => hc (by rw [h2, Nat.zero_mul] at h1; exact h1.symm), ?_, he1, he2⟩
    refine Nat.lt_of_le_of_lt (Nat.div_le_self _ _) (Nat.lt_of_lt_of_le hcb (Nat.le_trans ?_ hp))
    exact Nat.le_mul_of_pos_right _ (Nat.pow_pos (by decide))
  · refine ⟨Nat.mul_ne_zero hc (Nat.ne_of_gt (Nat.pow_pos (by decide))), ?_, he1, he2⟩
    have h5 : 5 ^ e.toNat ≤ 5 ^ m := Nat.pow_le_pow_right (by decide) (by omega)
    exact Nat.lt_of_lt_of_le (Nat.mul_lt_mul_of_lt_of_le hcb h5 (Nat.pow_pos (by decide))) hp
theorem val_big {m M : Nat} (hM : M = 100) (h0 : m ≠ 0) (h : m < cap7 M) (x : Int) : ∃ o t : Nat, m = o * 2 ^ t ∧ o % 2 ≠ 0 ∧ o ≠ 0 ∧ o.log2 + t < 7 * M ∧ valN m x = (o, x + t) := by
  obtain ⟨o, t, hm, ho⟩ := strip2 m h0
  have ho0 : o ≠ 0 := fun e => by rw [e] at ho; exact ho rfl
  have hl : o.log2 + t < 7 * M := by
    rw [← log2_mul ho0, ← hm]
    exact (Nat.log2_lt h0).2 (show m < 2 ^ (7 * M) from h)
  exact ⟨o, t, hm, ho, ho0, hl, valN_eq hm ho (by omega)⟩
theorem pack_plc {n : Bool} {c : Nat} {e : Int} (hr : rightD n (decDigits c) e = true) (hd : ¬ (e < 0 ∧ c % 5 ^ (-e).toNat ≠ 0)) :
    (plc 2047 52 (-1074) (valN (fives c e) e)).map (fun v => jn 2048 52 (if n = true then 1 else 0) v.1 v.2) = ofDecR n c e := by
  by_cases hc : c = 0
  · subst hc
    obtain ⟨rfl, rfl⟩ := right_zero_is hr
    have : fives 0 0 = 0 := by decide
    rw [this, valN_zero, plc, if_pos rfl, ofDecR, if_pos rfl]; rfl
  obtain ⟨M, hM⟩ : ∃ M, M = 100 := ⟨_, rfl⟩
  obtain ⟨f0, f1, he1, he2⟩ := fives_right hM hr hc hd
  obtain ⟨o, t, hm, ho, ho0, hl, hv⟩ := val_big hM f0 f1 e
  obtain ⟨S, hS⟩ : ∃ S : Nat, S = if n = true then 1 else 0 := ⟨_, rfl⟩
  have hS2 : (if n = true then 9223372036854775808 else 0) = S * 9223372036854775808 := by rw [hS]; cases n <;> rfl
  rw [← hS, ofDecR, if_neg hc, if_neg hd, hv, hm, strp2_eq ho (by omega), plc, if_neg ho0]
  simp only
  unfold packR
  clear hd hm f1 hS
  by_cases hb : 9007199254740992 ≤ o
  · have hlog : 53 ≤ o.log2 := (Nat.le_log2 ho0).2 (by rw [show (2 : Nat) ^ 53 = 9007199254740992 from by decide]; exact hb)
    rw [if_pos (by omega), if_pos hb]; rfl
  · have hlog : o.log2 < 53 := (Nat.log2_lt ho0).2 (by rw [show (2 : Nat) ^ 53 = 9007199254740992 from by decide]; omega)
    rw [if_neg (by omega), if_neg (by omega), if_neg hb, Option.map_some]
    unfold packB jn
    rw [hS2]
    simp only
    rw [show 52 + 1 - (o.log2 + 1) = 52 - o.log2 from by omega, e52, show (e + (t : Int) - -1074 + ((o.log2 + 1 : Nat) : Int) - (52 : Nat)).toNat = (e + (t : Int) + (o.log2 : Int) + 1023).toNat from by omega]
    exact congrArg some (by omega)
/-- Too many digits of binary. -/
theorem pack_none {n : Bool} {c U z : Nat} {e : Int} (hr : rightD n (decDigits c) e = true) (hd : ¬ (e < 0 ∧ c % 5 ^ (-e).toNat ≠ 0)) (hU : fives c e = U * 256 ^ z) (h256 : U % 256 ≠ 0) (hb : 256 ^ 8 ≤ U) : ofDecR n c e = none := by
  have hU0 : U ≠ 0 := fun h => by rw [h] at h256; exact h256 rfl
  by_cases hc : c = 0
  · subst hc
    obtain ⟨rfl, rfl⟩ := right_zero_is hr
    have h1 : fives 0 0 = 0 := by decide
    rw [h1] at hU
    rcases Nat.mul_eq_zero.1 hU.symm with h | h
    · exact absurd h hU0
    · exact absurd h (Nat.ne_of_gt (Nat.pow_pos (by decide)))
  obtain ⟨M, hM⟩ : ∃ M, M = 100 := ⟨_, rfl⟩
  obtain ⟨f0, f1, he1, he2⟩ := fives_right hM hr hc hd
  obtain ⟨o, t, hm, ho⟩ := strip2 U hU0
  have ho0 : o ≠ 0 := fun e => by rw [e] at ho; exact ho rfl
  have ht : t < 8 := by
    rcases Nat.lt_or_ge t 8 with h1 | h1
    · exact h1
    · exfalso
      apply h256
      rw [hm, show t = (t - 8) + 8 from by omega, Nat.pow_add, ← Nat.mul_assoc]
      exact Nat.mul_mod_left _ _
  have hF : fives c e = o * 2 ^ (t + 8 * z) := by
    rw [hU, hm, show (256 : Nat) = 2 ^ 8 from by decide, ← Nat.pow_mul, Nat.mul_assoc, ← Nat.pow_add]
  have hF2 : t + 8 * z < 7 * M := pow_le_of (by rw [← hF]; exact f1) ho0
  have hob : 9007199254740992 ≤ o := by
    rcases Nat.lt_or_ge o 9007199254740992 with h1 | h1
    · exfalso
      have h2 : 2 ^ t ≤ 2 ^ 8 := Nat.pow_le_pow_right (by decide) (by omega)
      have h3 : o * 2 ^ t < 9007199254740992 * 2 ^ 8 := Nat.mul_lt_mul_of_lt_of_le h1 h2 (Nat.pow_pos (by decide))
      have h4 : (256 : Nat) ^ 8 = 18446744073709551616 := by decide
      rw [← hm] at h3
      omega
    · exact h1
  rw [ofDecR, if_neg hc, if_neg hd, hF, strp2_eq ho (by omega), packR, if_pos hob]
theorem val_upper {m M U z : Nat} {x : Int} (hM : M = 100) (h0 : m ≠ 0) (h : m < cap7 M) (hU : m = U * 256 ^ z) : valN U (x + (z : Int) * 8) = valN m x := by
  have hU0 : U ≠ 0 := fun h1 => h0 (by rw [hU, h1, Nat.zero_mul])
  obtain ⟨o, t, hm, ho⟩ := strip2 U hU0
  have ho0 : o ≠ 0 := fun e => by rw [e] at ho; exact ho rfl
  have hF : m = o * 2 ^ (t + 8 * z) := by
    rw [hU, hm, show (256 : Nat) = 2 ^ 8 from by decide, ← Nat.pow_mul, Nat.mul_assoc, ← Nat.pow_add]
  have hF2 : t + 8 * z < 7 * M := pow_le_of (by rw [← hF]; exact h) ho0
  rw [valN_eq hm ho (by omega), valN_eq hF ho (by omega)]
  congr 1
  omega
end Go.Proofs.YtppapkpceejnkaaGreatDoor
