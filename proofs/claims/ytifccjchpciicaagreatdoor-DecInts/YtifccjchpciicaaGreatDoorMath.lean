/- Plain facts on numbers written to the base 1000000000: no program. -/
import Derived.Test.YtifccjchpciicaaGreatDoorLm
namespace Go.Proofs.YtifccjchpciicaaGreatDoor

theorem vt_congr {f g : Nat → Nat} {k : Nat} (h : ∀ j, j < k → f j = g j) : vt f k = vt g k := by
  induction k with
  | zero => rfl
  | succ k ih => rw [vt, vt, ih (fun j hj => h j (by omega)), h k (by omega)]

theorem vt_zero {f : Nat → Nat} {k m : Nat} (hkm : k ≤ m) (h : ∀ j, k ≤ j → j < m → f j = 0) : vt f m = vt f k := by
  induction m with
  | zero => obtain rfl : k = 0 := by omega
            rfl
  | succ m ih =>
    by_cases e : k = m + 1
    · subst e; rfl
    · rw [vt, ih (by omega) (fun j h1 h2 => h j h1 (by omega)), h m (by omega) (by omega)]; simp

theorem vt_lt {f : Nat → Nat} {k : Nat} (h : ∀ j, j < k → f j < 1000000000) : vt f k < 1000000000 ^ k := by
  induction k with
  | zero => simp [vt]
  | succ k ih =>
    have h1 := ih (fun j hj => h j (by omega))
    have h2 := h k (by omega)
    rw [vt, Nat.pow_succ]
    have h3 : (f k + 1) * 1000000000 ^ k ≤ 1000000000 * 1000000000 ^ k := Nat.mul_le_mul_right _ h2
    rw [Nat.add_mul] at h3
    omega

theorem vt_mono {f : Nat → Nat} {k m : Nat} (h : k ≤ m) : vt f k ≤ vt f m := by
  induction m with
  | zero => obtain rfl : k = 0 := by omega
            exact Nat.le_refl _
  | succ m ih =>
    by_cases e : k = m + 1
    · subst e; exact Nat.le_refl _
    · rw [vt]; have := ih (by omega); omega

theorem val_eq {L : List Nat} {k : Nat} (h : L.length ≤ k) : vt (lat L) k = val L := vt_zero h fun _ h1 _ => lat_ge h1

theorem val_lt {L : List Nat} (h : Bd L) : val L < 1000000000 ^ L.length := vt_lt fun j _ => h j

theorem val_ge {L : List Nat} (h : Nm L) (hne : L ≠ []) : 1000000000 ^ (L.length - 1) ≤ val L := by
  have hn : lat L (L.length - 1) ≠ 0 := by rcases h with h | h; exact absurd h hne; exact h
  have hl : 0 < L.length := List.length_pos_iff.2 hne
  rw [val, show L.length = L.length - 1 + 1 from by omega, vt, show L.length - 1 + 1 - 1 = L.length - 1 from by omega]
  have : 1 * 1000000000 ^ (L.length - 1) ≤ lat L (L.length - 1) * 1000000000 ^ (L.length - 1) := Nat.mul_le_mul_right _ (by omega)
  omega

theorem val_zero_iff {L : List Nat} (h : Nm L) : val L = 0 ↔ L = [] := by
  constructor
  · intro h0
    by_cases e : L = []
    · exact e
    · have := val_ge h e
      have : 0 < 1000000000 ^ (L.length - 1) := Nat.pow_pos (by omega)
      omega
  · rintro rfl; rfl

theorem val_lt_of_length {L M : List Nat} (hL : Bd L) (hM : Nm M) (h : L.length < M.length) : val L < val M := by
  have h1 := val_lt hL
  have h2 := val_ge hM (by intro e; subst e; simp at h)
  have h3 : 1000000000 ^ L.length ≤ 1000000000 ^ (M.length - 1) := Nat.pow_le_pow_right (by omega) (by omega)
  omega

/-- Where all above place i is one, place i decides. -/
theorem vt_lt_of_place {f g : Nat → Nat} {n i : Nat} (hi : i < n) (hf : ∀ j, f j < 1000000000) (h : f i < g i) (hab : ∀ j, i < j → j < n → f j = g j) : vt f n < vt g n := by
  induction n with
  | zero => omega
  | succ n ih =>
    rw [vt, vt]
    by_cases e : i = n
    · subst e
      have h1 := vt_lt (k := i) (fun j _ => hf j)
      have h2 : (f i + 1) * 1000000000 ^ i ≤ g i * 1000000000 ^ i := Nat.mul_le_mul_right _ h
      rw [Nat.add_mul] at h2
      omega
    · have := ih (by omega) (fun j h1 h2 => hab j h1 (by omega))
      rw [hab n (by omega) (by omega)]
      omega

theorem trimL_spec (L : List Nat) : ∃ k, k ≤ L.length ∧ trimL L = L.take k ∧ (∀ j, k ≤ j → lat L j = 0) ∧ (k = 0 ∨ lat L (k - 1) ≠ 0) := by
  have key : ∀ n, n ≤ L.length → (∀ j, n ≤ j → lat L j = 0) → ∃ k, k ≤ L.length ∧ trimL (L.take n) = L.take k ∧ (∀ j, k ≤ j → lat L j = 0) ∧ (k = 0 ∨ lat L (k - 1) ≠ 0) := by
    intro n
    induction n with
    | zero => intro h h0; exact ⟨0, by omega, by simp [trimL], h0, .inl rfl⟩
    | succ n ih =>
      intro h h0
      by_cases hz : lat L n = 0
      · rw [trimL_take_zero L n (by omega) hz]
        exact ih (by omega) (fun j hj => by by_cases e : j = n; (subst e; exact hz); exact h0 j (by omega))
      · exact ⟨n + 1, h, trimL_take_pos L n (by omega) hz, h0, .inr (by simpa using hz)⟩
  obtain ⟨k, h⟩ := key L.length (Nat.le_refl _) (fun j hj => lat_ge hj)
  rw [List.take_length] at h
  exact ⟨k, h⟩

theorem lat_take {L : List Nat} {k j : Nat} (h : j < k) : lat (L.take k) j = lat L j := by simp [lat, List.getElem?_take_of_lt h]

theorem val_trim (L : List Nat) : val (trimL L) = val L := by
  obtain ⟨k, hk, h1, h2, _⟩ := trimL_spec L
  rw [h1, val, List.length_take, Nat.min_eq_left hk, val, vt_zero hk (fun j h _ => h2 j h)]
  exact vt_congr fun j hj => lat_take hj

theorem nm_trim (L : List Nat) : Nm (trimL L) := by
  obtain ⟨k, hk, h1, _, h3⟩ := trimL_spec L
  rw [h1, Nm, List.length_take, Nat.min_eq_left hk]
  rcases h3 with rfl | h3
  · exact .inl (by simp)
  · by_cases e : k = 0
    · subst e; exact .inl (by simp)
    · right; rw [lat_take (by omega)]; exact h3

theorem bd_trim {L : List Nat} (h : Bd L) : Bd (trimL L) := by
  obtain ⟨k, hk, h1, _, _⟩ := trimL_spec L
  intro j
  rw [h1]
  by_cases e : j < k
  · rw [lat_take e]; exact h j
  · rw [lat_ge (by rw [List.length_take]; omega)]; omega

theorem length_trim (L : List Nat) : (trimL L).length ≤ L.length := by
  obtain ⟨k, hk, h1, _, _⟩ := trimL_spec L
  rw [h1, List.length_take]; omega
/-- The first k of what Backward hands over. -/
def backP (L : List Nat) (k : Nat) : List (Nat × Nat) := (List.range k).map fun t => (L.length - 1 - t, lat L (L.length - 1 - t))
theorem backP_succ (L : List Nat) (k : Nat) : backP L (k + 1) = backP L k ++ [(L.length - 1 - k, lat L (L.length - 1 - k))] := by simp [backP, List.range_succ]
theorem backP_length (L : List Nat) (k : Nat) : (backP L k).length = k := by simp [backP]

end Go.Proofs.YtifccjchpciicaaGreatDoor
