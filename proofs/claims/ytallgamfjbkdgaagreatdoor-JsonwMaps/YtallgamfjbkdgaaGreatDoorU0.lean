/- Quotations: what they are; characters and their bytes. -/
import Derived.Test.YtallgamfjbkdgaaGreatDoorMo
import Derived.Test.YtallgamfjbkdgaaGreatDoorMc
import Derived.Lib.RuneBytes
namespace Go.Proofs.YtallgamfjbkdgaaGreatDoor
open Go.RowKit

def hexd (n : Nat) : UInt8 := UInt8.ofNat (if n < 10 then 48 + n else 87 + n)
/-- What stands for a byte in a plain quotation. -/
def escL (c : UInt8) : List UInt8 :=
  if c = 34 ∨ c = 92 then [92, c] else if c = 8 then [92, 98] else if c = 12 then [92, 102] else if c = 10 then [92, 110] else if c = 13 then [92, 114] else if c = 9 then [92, 116]
  else if c.toNat < 32 then [92, 117, 48, 48, hexd (c.toNat / 16), hexd (c.toNat % 16)] else [c]
def escAll (l : List UInt8) : List UInt8 := l.flatMap escL
/-- The plain quotation. -/
def quoteB (s : ByteArray) : ByteArray := ⟨(34 :: (escAll s.data.toList ++ [34])).toArray⟩
theorem escL_high {c : UInt8} (h : 128 ≤ c.toNat) : escL c = [c] := by
  have h1 : c ≠ 34 := fun e => by subst e; exact absurd h (by decide)
  have h2 : c ≠ 92 := fun e => by subst e; exact absurd h (by decide)
  have h3 : c ≠ 8 := fun e => by subst e; exact absurd h (by decide)
  have h4 : c ≠ 12 := fun e => by subst e; exact absurd h (by decide)
  have h5 : c ≠ 10 := fun e => by subst e; exact absurd h (by decide)
  have h6 : c ≠ 13 := fun e => by subst e; exact absurd h (by decide)
  have h7 : c ≠ 9 := fun e => by subst e; exact absurd h (by decide)
  simp only [escL]
  rw [if_neg (by intro x; exact x.elim h1 h2), if_neg h3, if_neg h4, if_neg h5, if_neg h6, if_neg h7, if_neg (by omega)]
theorem escL_len (c : UInt8) : (escL c).length ≤ 6 := by
  unfold escL
  repeat' split
  all_goals simp
theorem escAll_app (a b : List UInt8) : escAll (a ++ b) = escAll a ++ escAll b := by simp [escAll]
theorem escAll_len (l : List UInt8) : (escAll l).length ≤ 6 * l.length := by
  induction l with
  | nil => simp [escAll]
  | cons c r ih =>
    have := escL_len c
    simp only [escAll, List.flatMap_cons, List.length_append, List.length_cons] at *
    omega
theorem escAll_high {l : List UInt8} (h : ∀ c ∈ l, 128 ≤ c.toNat) : escAll l = l := by
  induction l with
  | nil => rfl
  | cons c r ih =>
    have h1 := ih (fun x hx => h x (List.mem_cons_of_mem _ hx))
    simp only [escAll, List.flatMap_cons] at *
    rw [escL_high (h c (List.mem_cons_self ..)), h1]
    rfl
theorem quoteB_size (s : ByteArray) : (quoteB s).size ≤ 6 * s.size + 2 := by
  have h1 := escAll_len s.data.toList
  have h4 : s.data.toList.length = s.size := Array.length_toList
  have h2 : (quoteB s).size = (34 :: (escAll s.data.toList ++ [34])).length := rfl
  rw [h4] at h1
  rw [h2, List.length_cons, List.length_append]
  show _ + 1 + 1 ≤ _
  omega
/-- The bytes of a text from a place on. -/
def bytesAt (s : ByteArray) (pos n : Nat) : List UInt8 := (List.range n).map fun k => s.get! (pos + k)
theorem get_list (s : ByteArray) (i : Nat) (h : i < s.size) : s.data.toList[i]? = some (s.get! i) := by
  have h1 : i < s.data.size := h
  show _ = some s.data[i]!
  rw [Array.getElem?_toList, Array.getElem?_eq_getElem h1]
  exact congrArg some (getElem!_pos s.data i h1).symm
theorem take_bytes (s : ByteArray) (pos : Nat) : ∀ n, pos + n ≤ s.size → s.data.toList.take (pos + n) = s.data.toList.take pos ++ bytesAt s pos n
  | 0, _ => by simp [bytesAt]
  | n + 1, h => by
    have h1 := take_bytes s pos n (by omega)
    rw [← Nat.add_assoc, List.take_add_one, h1, get_list s (pos + n) (by omega)]
    simp [bytesAt, List.range_succ]
theorem u_get (s : ByteArray) (p i : Nat) : (s.extract p s.size).get! i = s.get! (p + i) := by
  show (s.extract p s.size).data[i]! = s.data[p + i]!
  rw [ByteArray.data_extract, getElem!_def, getElem!_def, Array.getElem?_extract]
  by_cases h : i < s.data.size - p
  · rw [if_pos (by show i < min s.data.size s.data.size - p; omega)]
  · rw [if_neg (by show ¬ i < min s.data.size s.data.size - p; omega), Array.getElem?_eq_none (xs := s.data) (by omega)]
theorem u_size (s : ByteArray) (p : Nat) : (s.extract p s.size).size = s.size - p := by
  show (s.extract p s.size).data.size = _
  rw [ByteArray.data_extract, Array.size_extract]
  show min s.data.size s.data.size - p = s.data.size - p
  omega
theorem repB_is {T : ByteArray} (h : repB T = true) : 3 ≤ T.size ∧ (T.get! 0).toNat = 239 ∧ (T.get! 1).toNat = 191 ∧ (T.get! 2).toNat = 189 := by
  rw [repB, Bool.and_eq_true, decide_eq_true_eq, Lib.toList_data, Lib.extract_data, beq_iff_eq] at h
  obtain ⟨h1, h2⟩ := h
  rcases T with ⟨⟨l⟩⟩
  match l, h1, h2 with
  | x0 :: x1 :: x2 :: r, h1, h2 =>
    have h3 : [x0, x1, x2] = [239, 191, 189] := h2
    simp only [List.cons.injEq, and_true] at h3
    obtain ⟨rfl, rfl, rfl⟩ := h3
    exact ⟨h1, rfl, rfl, rfl⟩
theorem valid_nat {c : Nat} (h : Utf8.valid (c : Int) = true) : c < 55296 ∨ (57343 < c ∧ c ≤ 1114111) := by
  simp only [Utf8.valid, Bool.or_eq_true, Bool.and_eq_true, decide_eq_true_eq] at h
  omega
set_option maxHeartbeats 1000000 in
theorem dec_split (s : ByteArray) (pos : Nat) (h : pos < s.size) (hg : badU s pos = false) :
    ∃ c n, Utf8.decode s pos = (c, n) ∧ 1 ≤ n ∧ pos + n ≤ s.size ∧ c ≤ 1114111 ∧
      ((c < 128 ∧ n = 1 ∧ (s.get! pos).toNat = c) ∨ (128 ≤ c ∧ Lib.encodeRuneZ (c : Int) = (bytesAt s pos n).map (fun b => (b.toNat : Int)) ∧ ∀ b ∈ bytesAt s pos n, 128 ≤ b.toNat)) := by
  obtain ⟨b0, e0⟩ : ∃ b, b = (s.get! (pos + 0)).toNat := ⟨_, rfl⟩
  obtain ⟨b1, e1⟩ : ∃ b, b = (s.get! (pos + 1)).toNat := ⟨_, rfl⟩
  obtain ⟨b2, e2⟩ : ∃ b, b = (s.get! (pos + 2)).toNat := ⟨_, rfl⟩
  obtain ⟨b3, e3⟩ : ∃ b, b = (s.get! (pos + 3)).toNat := ⟨_, rfl⟩
  have l0 : b0 < 256 := by rw [e0]; exact UInt8.toNat_lt _
  have l1 : b1 < 256 := by rw [e1]; exact UInt8.toNat_lt _
  have l2 : b2 < 256 := by rw [e2]; exact UInt8.toNat_lt _
  have l3 : b3 < 256 := by rw [e3]; exact UInt8.toNat_lt _
  obtain ⟨D, hD⟩ : ∃ D, Utf8.decode s pos = D := ⟨_, rfl⟩
  have hd := hD
  unfold Utf8.decode at hd
  simp only [← e0, ← e1, ← e2, ← e3, Bool.and_eq_true, decide_eq_true_eq, beq_iff_eq, ge_iff_le] at hd
  have hb2 : bytesAt s pos 2 = [s.get! (pos + 0), s.get! (pos + 1)] := rfl
  have hb3 : bytesAt s pos 3 = [s.get! (pos + 0), s.get! (pos + 1), s.get! (pos + 2)] := rfl
  have hb4 : bytesAt s pos 4 = [s.get! (pos + 0), s.get! (pos + 1), s.get! (pos + 2), s.get! (pos + 3)] := rfl
  have hbad : (Utf8.runeError, 1) ≠ D := by
    intro e
    rw [← hD] at e
    rw [badU, ← e] at hg
    have hr : repB (s.extract pos s.size) = true := by
      cases hq : repB (s.extract pos s.size) with
      | true => rfl
      | false => rw [hq] at hg; exact absurd hg (by decide)
    obtain ⟨z, r0, r1, r2⟩ := repB_is hr
    rw [u_get] at r0 r1 r2
    rw [u_size] at z
    rw [← e0] at r0
    rw [← e1] at r1
    rw [← e2] at r2
    subst r0 r1 r2
    rw [if_neg (by decide), if_neg (by rintro ⟨h, _⟩; exact absurd h (by decide)), if_pos ⟨⟨by decide, by omega, by decide⟩, by omega, by decide⟩, if_pos (by decide)] at hd
    rw [← e] at hD
    rw [← hd] at hD
    exact absurd (congrArg Prod.snd hD) (by decide)
  by_cases q0 : b0 < 128
  · rw [if_pos q0] at hd
    exact ⟨b0, 1, hD.trans hd.symm, Nat.le_refl _, by omega, by omega, .inl ⟨q0, rfl, e0.symm⟩⟩
  rw [if_neg q0] at hd
  by_cases q1 : (b0 / 32 = 6 ∧ pos + 1 < s.size ∧ b1 / 64 = 2)
  · rw [if_pos q1] at hd
    by_cases q2 : 128 ≤ b0 % 32 * 64 + b1 % 64
    · rw [if_pos q2] at hd
      refine ⟨_, 2, hD.trans hd.symm, by omega, by omega, by omega, .inr ⟨q2, ?_, ?_⟩⟩
      · rw [Lib.encodeRuneZ_two (by omega) (by omega), hb2]
        simp only [List.map_cons, List.map_nil, ← e0, ← e1]
        congr 1
        · omega
        · congr 1
          omega
      · rw [hb2]
        intro x hx
        simp only [List.mem_cons, List.not_mem_nil, or_false] at hx
        rcases hx with rfl | rfl <;> omega
    · rw [if_neg q2] at hd
      exact absurd hd hbad
  rw [if_neg q1] at hd
  by_cases q3 : ((b0 / 16 = 14 ∧ pos + 1 < s.size ∧ b1 / 64 = 2) ∧ pos + 2 < s.size ∧ b2 / 64 = 2)
  · rw [if_pos q3] at hd
    by_cases q2 : 2048 ≤ b0 % 16 * 4096 + b1 % 64 * 64 + b2 % 64 ∧ Utf8.valid ((b0 % 16 * 4096 + b1 % 64 * 64 + b2 % 64 : Nat) : Int) = true
    · rw [if_pos q2] at hd
      have hv := valid_nat q2.2
      refine ⟨_, 3, hD.trans hd.symm, by omega, by omega, by omega, .inr ⟨by omega, ?_, ?_⟩⟩
      · rw [Lib.encodeRuneZ_three (by omega), hb3]
        simp only [List.map_cons, List.map_nil, ← e0, ← e1, ← e2]
        congr 1
        · omega
        · congr 1
          · omega
          · congr 1
            omega
      · rw [hb3]
        intro x hx
        simp only [List.mem_cons, List.not_mem_nil, or_false] at hx
        rcases hx with rfl | rfl | rfl <;> omega
    · rw [if_neg q2] at hd
      exact absurd hd hbad
  rw [if_neg q3] at hd
  by_cases q4 : (((b0 / 8 = 30 ∧ pos + 1 < s.size ∧ b1 / 64 = 2) ∧ pos + 2 < s.size ∧ b2 / 64 = 2) ∧ pos + 3 < s.size ∧ b3 / 64 = 2)
  · rw [if_pos q4] at hd
    by_cases q2 : 65536 ≤ b0 % 8 * 262144 + b1 % 64 * 4096 + b2 % 64 * 64 + b3 % 64 ∧ Utf8.valid ((b0 % 8 * 262144 + b1 % 64 * 4096 + b2 % 64 * 64 + b3 % 64 : Nat) : Int) = true
    · rw [if_pos q2] at hd
      have hv := valid_nat q2.2
      refine ⟨_, 4, hD.trans hd.symm, by omega, by omega, by omega, .inr ⟨by omega, ?_, ?_⟩⟩
      · rw [Lib.encodeRuneZ_four (by omega) (by omega), hb4]
        simp only [List.map_cons, List.map_nil, ← e0, ← e1, ← e2, ← e3]
        congr 1
        · omega
        · congr 1
          · omega
          · congr 1
            · omega
            · congr 1
              omega
      · rw [hb4]
        intro x hx
        simp only [List.mem_cons, List.not_mem_nil, or_false] at hx
        rcases hx with rfl | rfl | rfl | rfl <;> omega
    · rw [if_neg q2] at hd
      exact absurd hd hbad
  rw [if_neg q4] at hd
  exact absurd hd hbad
end Go.Proofs.YtallgamfjbkdgaaGreatDoor
