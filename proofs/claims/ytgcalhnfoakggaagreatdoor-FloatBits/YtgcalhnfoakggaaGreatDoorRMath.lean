/- Plain facts on what read lays of digits: no program's walk. -/
import Derived.Test.YtgcalhnfoakggaaGreatDoorDig
import Derived.Test.YtgcalhnfoakggaaGreatDoorMn1
import Derived.Lib.Strings
namespace Go.Proofs.YtgcalhnfoakggaaGreatDoor

/-- One digit more, as read lays it. -/
def stepD (X : List Nat) (x : Nat × Nat) : List Nat := X.set (x.1 / 9) ((lat X (x.1 / 9) * 10 % 4294967296 + x.2) % 4294967296)
def foldD (n : Nat) (l : List (Nat × Nat)) : List Nat := l.foldl stepD (List.replicate n 0)
theorem foldD_snoc (n : Nat) (l : List (Nat × Nat)) (x : Nat × Nat) : foldD n (l ++ [x]) = stepD (foldD n l) x := by simp [foldD]
theorem foldD_length (n : Nat) (l : List (Nat × Nat)) : (foldD n l).length = n := by
  have : ∀ (l : List (Nat × Nat)) (X : List Nat), (l.foldl stepD X).length = X.length := by
    intro l
    induction l with
    | nil => intro X; rfl
    | cons x l ih => intro X; rw [List.foldl_cons, ih, stepD, List.length_set]
  rw [foldD, this, List.length_replicate]

def sumN (g : Nat → Nat) : Nat → Nat
  | 0 => 0
  | n + 1 => sumN g n + g n
theorem sumN_congr {g h : Nat → Nat} {n : Nat} (e : ∀ a, a < n → g a = h a) : sumN g n = sumN h n := by
  induction n with
  | zero => rfl
  | succ n ih => rw [sumN, sumN, ih (fun a ha => e a (by omega)), e n (by omega)]
theorem sumN_upd {g h : Nat → Nat} {n i D : Nat} (hi : i < n) (e : ∀ a, a < n → a ≠ i → h a = g a) (ei : h i = g i + D) : sumN h n = sumN g n + D := by
  induction n with
  | zero => omega
  | succ n ih =>
    rw [sumN, sumN]
    by_cases hin : i = n
    · subst hin
      rw [ei, sumN_congr (h := g) (fun a ha => e a (by omega) (by omega))]; omega
    · rw [ih (by omega) (fun a ha hne => e a (by omega) hne), e n (by omega) (by omega)]; omega

/-- What X is when k digits have come, m stand behind. -/
structure RdI (n m V : Nat) (X : List Nat) : Prop where
  len : X.length = n
  bd : ∀ a, lat X a < 10 ^ (9 * a + 9 - max (9 * a) m)
  sum : sumN (fun a => lat X a * 10 ^ max (9 * a) m) n = V * 10 ^ m

theorem RdI.step {n m V d : Nat} {X : List Nat} (h : RdI n (m + 1) V X) (hm : m / 9 < n) (hd : d ≤ 9) : RdI n m (V * 10 + d) (stepD X (m, d)) := by
  have hb := h.bd (m / 9)
  have hx : max (9 * (m / 9)) (m + 1) = m + 1 := by omega
  have hx' : max (9 * (m / 9)) m = m := by omega
  rw [hx] at hb
  have h8 : 10 ^ (9 * (m / 9) + 9 - (m + 1)) ≤ 10 ^ 8 := Nat.pow_le_pow_right (by omega) (by omega)
  have e1 : (lat X (m / 9) * 10 % 4294967296 + d) % 4294967296 = lat X (m / 9) * 10 + d := by
    have : (10 : Nat) ^ 8 = 100000000 := by decide
    omega
  have hs : stepD X (m, d) = X.set (m / 9) (lat X (m / 9) * 10 + d) := by rw [stepD, e1]
  have hi : m / 9 < X.length := by rw [h.len]; exact hm
  rw [hs]
  refine ⟨by rw [List.length_set]; exact h.len, fun a => ?_, ?_⟩
  · by_cases e : m / 9 = a
    · subst e
      rw [lat_set_same hi, hx', show 9 * (m / 9) + 9 - m = 9 * (m / 9) + 9 - (m + 1) + 1 from by omega, Nat.pow_succ]
      omega
    · rw [lat_set_other e]
      exact Nat.lt_of_lt_of_le (h.bd a) (Nat.pow_le_pow_right (by omega) (by omega))
  · have key : sumN (fun a => lat (X.set (m / 9) (lat X (m / 9) * 10 + d)) a * 10 ^ max (9 * a) m) n = sumN (fun a => lat X a * 10 ^ max (9 * a) (m + 1)) n + d * 10 ^ m := by
      refine sumN_upd hm (fun a _ hne => ?_) ?_
      · rw [lat_set_other (Ne.symm hne)]
        by_cases ha : a < m / 9
        · have hz := h.bd a
          rw [show 9 * a + 9 - max (9 * a) (m + 1) = 0 from by omega, Nat.pow_zero] at hz
          have : lat X a = 0 := by omega
          rw [this, Nat.zero_mul, Nat.zero_mul]
        · rw [show max (9 * a) m = max (9 * a) (m + 1) from by omega]
      · rw [lat_set_same hi, hx, hx', Nat.pow_succ, Nat.add_mul, Nat.mul_assoc, Nat.mul_comm 10 (10 ^ m)]
    rw [key, h.sum, Nat.pow_succ, Nat.add_mul, Nat.mul_assoc, Nat.mul_comm 10 (10 ^ m)]

theorem RdI.fin {n V : Nat} {X : List Nat} (h : RdI n 0 V X) : val X = V ∧ Bd X := by
  refine ⟨?_, fun j => ?_⟩
  · have e := h.sum
    rw [Nat.pow_zero, Nat.mul_one] at e
    rw [← e, val, h.len]
    have : ∀ k, vt (lat X) k = sumN (fun a => lat X a * 10 ^ max (9 * a) 0) k := by
      intro k
      induction k with
      | zero => rfl
      | succ k ih => rw [vt, sumN, ih, Nat.max_eq_left (Nat.zero_le _), Nat.pow_mul]
    exact this n
  · have := h.bd j
    rw [Nat.max_eq_left (Nat.zero_le _), show 9 * j + 9 - 9 * j = 9 from by omega] at this
    exact this

theorem sumN_zero (n : Nat) (g : Nat → Nat) (h : ∀ a, g a = 0) : sumN g n = 0 := by
  induction n with
  | zero => rfl
  | succ n ih => rw [sumN, ih, h]

theorem lat_rep (n a : Nat) : lat (List.replicate n 0) a = 0 := by
  simp only [lat, List.getElem?_replicate]
  split <;> rfl

theorem dgt_le {c : UInt8} : dgt c ≤ 9 ↔ isD c = true := by
  have := c.toNat_lt
  simp only [dgt, isD, Bool.and_eq_true, decide_eq_true_eq]
  omega
theorem dgt_eq {c : UInt8} (h : isD c = true) : dgt c = c.toNat - 48 := by
  have := c.toNat_lt
  simp only [isD, Bool.and_eq_true, decide_eq_true_eq] at h
  simp only [dgt]
  omega

theorem rd_all (s : ByteArray) (n : Nat) (hn : n = (s.size + 8) / 9) (hd : ∀ t, t < s.size → isD (byteAt s t) = true) (k : Nat) (hk : k ≤ s.size) :
    RdI n (s.size - k) (dv (s.data.toList.take k)) (foldD n (digP s k)) := by
  induction k with
  | zero =>
    refine ⟨by rw [foldD_length], fun a => ?_, ?_⟩
    · simp only [digP, List.range_zero, List.map_nil, foldD, List.foldl_nil, lat_rep]
      exact Nat.pow_pos (by omega)
    · simp only [digP, List.range_zero, List.map_nil, foldD, List.foldl_nil, lat_rep, Nat.zero_mul]
      rw [sumN_zero _ _ (fun _ => rfl)]
      simp [dv]
  | succ k ih =>
    have h := ih (by omega)
    rw [show s.size - k = s.size - (k + 1) + 1 from by omega] at h
    have hlen : k < s.data.toList.length := by rw [← Lib.size_eq]; exact hk
    have hb : byteAt s k = s.data.toList[k] := by rw [byteAt_list, List.getElem?_eq_getElem hlen]; rfl
    have hdk := hd k (by omega)
    rw [digP_succ, foldD_snoc, List.take_succ_eq_append_getElem hlen, dv_snoc, ← hb, ← dgt_eq hdk, show s.size - 1 - k = s.size - (k + 1) from by omega]
    exact h.step (by omega) (dgt_le.2 hdk)

theorem rd_fin (s : ByteArray) (n : Nat) (hn : n = (s.size + 8) / 9) (hd : ∀ t, t < s.size → isD (byteAt s t) = true) : val (foldD n (digP s s.size)) = dv s.data.toList ∧ Bd (foldD n (digP s s.size)) := by
  have h := rd_all s n hn hd s.size (Nat.le_refl _)
  rw [Nat.sub_self, List.take_of_length_le (by rw [← Lib.size_eq]; exact Nat.le_refl _)] at h
  exact h.fin

end Go.Proofs.YtgcalhnfoakggaaGreatDoor
