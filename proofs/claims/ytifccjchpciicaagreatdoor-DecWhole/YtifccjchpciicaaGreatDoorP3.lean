/- Plain mathematics: what is made is right; whole numbers; however a number is written. -/
import Derived.Test.YtifccjchpciicaaGreatDoorP2
namespace Go.Proofs.YtifccjchpciicaaGreatDoor
open Go.Lib (decDigits nDigits)

/-- A number, and the zeros at its end. -/
theorem strip : ∀ m : Nat, m ≠ 0 → ∃ a k, m = a * 10 ^ k ∧ a % 10 ≠ 0 := by
  intro m
  induction m using Nat.strongRecOn with
  | _ m ih =>
    intro h
    by_cases hz : m % 10 = 0
    · obtain ⟨a, k, h1, h2⟩ := ih (m / 10) (by omega) (by omega)
      refine ⟨a, k + 1, ?_, h2⟩
      rw [Nat.pow_succ, ← Nat.mul_assoc, ← h1]; omega
    · exact ⟨m, 0, by simp, hz⟩
theorem strip_le {m a k : Nat} (h1 : m = a * 10 ^ k) : a ≤ m := by
  rw [h1]; exact Nat.le_mul_of_pos_right a (Nat.pow_pos (by decide))

/-- What is made is right. -/
theorem make_is_right {n : Bool} {l : List UInt8} {e : Int} {d : Bool × Nat × Int} (h : makeR n l e = some d) : rightD d.1 (decDigits d.2.1) d.2.2 = true ∧ d.2.1 < lim := by
  by_cases hb : l = [] ∨ 400 < l.length ∨ e < -1000 ∨ 1000 < e ∨ l.all isD = false
  · rw [makeR_bad hb] at h; cases h
  · have hne : l ≠ [] := fun e => hb (.inl e)
    have hal : l.all isD = true := by
      rw [← Bool.not_eq_false]; exact fun e => hb (.inr (.inr (.inr (.inr e))))
    have hll : l.length ≤ 400 := by
      rcases Nat.lt_or_ge 400 l.length with h | h
      · exact absurd (.inr (.inl h)) hb
      · exact h
    have hlm := lim_dv hll hal hne
    by_cases h0 : dv l = 0
    · rw [makeR_zero hb h0] at h
      cases h
      refine ⟨?_, Nat.lt_of_le_of_lt (Nat.zero_le _) hlm⟩
      rw [show decDigits 0 = [48] from by rw [Lib.decDigits_one (by omega)]; rfl, rightD_zero]; rfl
    · obtain ⟨a, k, h1, h2⟩ := strip _ h0
      have hk : k ≤ 400 := pow_nd ((lim_iff _).2 hlm) h1 (by omega)
      have hal2 : a < lim := Nat.lt_of_le_of_lt (strip_le h1) hlm
      rw [makeR_more hb h1 h2 hk] at h
      split at h
      · rename_i hc
        cases h
        refine ⟨?_, hal2⟩
        rw [rightD_dec n h2 hal2]
        simp only [Bool.and_eq_true, decide_eq_true_eq]
        exact hc
      · cases h

theorem parse_right {l r : List UInt8} {d : Bool × Nat × Int} (h : parseR l = some (d, r)) : rightD d.1 (decDigits d.2.1) d.2.2 = true ∧ d.2.1 < lim := by
  rw [parseR_eq, parseC] at h
  split at h
  · cases h
  · split at h
    · cases h
    · split at h
      · cases h
      · rename_i hm
        cases h
        exact make_is_right hm
/-- What was read is written, and read again. -/
theorem parse_back {l r : List UInt8} {d : Bool × Nat × Int} (h : parseR l = some (d, r)) : parseR (sgL d.1 (fmtL (decDigits d.2.1) d.2.2)) = some (d, []) := by
  have := parse_fmt (parse_right h).1 (t := []) Stop.nil
  rw [List.append_nil, dv_dec] at this
  exact this

theorem dec_zeros {a k : Nat} (ha : a % 10 ≠ 0) : decDigits a ++ List.replicate k 48 = decDigits (a * 10 ^ k) := by
  have hne : decDigits a ++ List.replicate k 48 ≠ [] := by
    intro e
    exact dec_ne a (List.append_eq_nil_iff.1 e).1
  have hal : (decDigits a ++ List.replicate k 48).all isD = true := by rw [List.all_append, all_dec, all_rep]; rfl
  have hv : dv (decDigits a ++ List.replicate k 48) = a * 10 ^ k := by rw [dv_zeros, dv_dec]
  rw [← hv]
  refine (dec_canon hne ?_ hal).symm
  left
  intro e
  have hh : (decDigits a).head? = some 48 := by
    cases h : decDigits a with
    | nil => exact absurd h (dec_ne a)
    | cons c r => rw [h] at e; exact e
  obtain ⟨r, hr⟩ : ∃ r, decDigits a = 48 :: r := by
    cases h : decDigits a with
    | nil => rw [h] at hh; cases hh
    | cons c r => rw [h] at hh; simp at hh; subst hh; exact ⟨r, rfl⟩
  have h1 := dv_dec a
  have h2 : dv r < 10 ^ r.length := dv_lt r (by have := all_dec a; rw [hr, List.all_cons, Bool.and_eq_true] at this; exact this.2)
  rw [hr, dv_zero_cons] at h1
  have h3 : nDigits a = r.length + 1 := by rw [← Lib.decDigits_length, hr]; rfl
  rcases Nat.eq_zero_or_pos r.length with h4 | h4
  · have : r = [] := List.eq_nil_of_length_eq_zero h4
    subst this
    have : a = 0 := by rw [← h1]; rfl
    omega
  · have := nDigits_le h4 (by rw [h1] at h2; exact h2)
    omega

/-- Whole numbers. -/
theorem whole {n : Bool} {k : Nat} (hk : k < 18446744073709551616) : ∃ (m : Bool) (a : Nat) (e : Int), makeR n (decDigits k) 0 = some (m, a, e) ∧ m = (n && decide (0 < k)) ∧ toI m (decDigits a) e = some (m, k) ∧ rightD m (decDigits a) e = true ∧ 0 ≤ e ∧ e ≤ 20 ∧ fmtL (decDigits a) e = decDigits k := by
  have hnd : nDigits k ≤ 20 := nDigits_le (by decide) (by omega)
  have hok : ¬ (decDigits k = [] ∨ 400 < (decDigits k).length ∨ (0 : Int) < -1000 ∨ 1000 < (0 : Int) ∨ (decDigits k).all isD = false) := by
    rintro (h | h | h | h | h)
    · exact dec_ne k h
    · rw [Lib.decDigits_length] at h; omega
    · omega
    · omega
    · rw [all_dec] at h; cases h
  by_cases h0 : k = 0
  · subst h0
    have hd : decDigits 0 = [48] := by rw [Lib.decDigits_one (by omega)]; rfl
    have hr : rightD false [48] 0 = true := by rw [rightD_zero]; rfl
    refine ⟨false, 0, 0, makeR_zero hok (dv_dec 0), by simp, ?_, by rw [hd]; exact hr, by omega, by omega, ?_⟩
    · rw [hd, toI, if_pos ⟨hr, by omega, by omega, by decide⟩]; rfl
    · rw [hd]; rfl
  · obtain ⟨a, z, h1, h2⟩ := strip k h0
    have hz : z ≤ 19 := by
      have ha : 1 ≤ a := by omega
      have h3 : 1 * 10 ^ z ≤ a * 10 ^ z := Nat.mul_le_mul_right _ ha
      have h4 : 10 ^ z < 10 ^ 20 := by
        have : (18446744073709551616 : Nat) ≤ 10 ^ 20 := by decide
        omega
      have := (Nat.pow_lt_pow_iff_right (show 1 < 10 by decide)).1 h4
      omega
    have hal : a ≤ k := by rw [h1]; exact Nat.le_mul_of_pos_right a (Nat.pow_pos (by decide))
    have hna : nDigits a ≤ 20 := nDigits_le (by decide) (by omega)
    have hlim : a < lim := (lim_iff a).1 (by omega)
    have hm : makeR n (decDigits k) 0 = some (n, a, (z : Int)) := by
      rw [makeR_more hok ((dv_dec k).trans h1) h2 (by omega), if_pos ⟨by omega, by omega, by omega⟩, Int.zero_add]
    have hr : rightD n (decDigits a) (z : Int) = true := by
      rw [rightD_dec n h2 hlim]
      simp only [Bool.and_eq_true, decide_eq_true_eq]
      omega
    refine ⟨n, a, z, hm, by simp; intro _; omega, ?_, hr, by omega, by omega, ?_⟩
    · rw [toI, if_pos ⟨hr, by omega, by omega, by rw [dv_dec, Int.toNat_natCast, ← h1]; exact hk⟩, dv_dec, Int.toNat_natCast, ← h1]
    · rw [fmtL, if_neg (by omega), if_pos (by omega), Int.toNat_natCast, dec_zeros h2, ← h1]

/-- A point that is moved. -/
theorem parse_moved {n : Bool} {l : List UInt8} {e : Int} {at_ : Nat} (h : rightD n l e = true) (h1 : 1 ≤ at_) (h2 : at_ < l.length) :
    parseR (sgL n (l.take at_ ++ 46 :: (l.drop at_ ++ 69 :: numL (e + (l.length - at_ : Nat))))) = some ((n, dv l, e), []) := by
  obtain ⟨g1, g2, g3, g4⟩ := right_parts h
  obtain ⟨k1, k2, k3, k4⟩ := isNat_parts g1
  have h0 : l ≠ [48] := by rintro rfl; simp at h2; omega
  obtain ⟨_, _, _, hhd⟩ := right_num h h0
  have hta : l.take at_ ≠ [] := by
    intro e
    have := congrArg List.length e
    rw [List.length_take, List.length_nil] at this
    omega
  have hda : l.drop at_ ≠ [] := by
    intro e
    have := congrArg List.length e
    rw [List.length_drop, List.length_nil] at this
    omega
  have hall : (l.take at_).all isD = true ∧ (l.drop at_).all isD = true := by
    rw [← List.take_append_drop at_ l, List.all_append, Bool.and_eq_true] at k4; exact k4
  have hh : (l.take at_).head? ≠ some 48 := by
    cases l with
    | nil => exact absurd rfl k1
    | cons c l =>
      obtain ⟨m, rfl⟩ : ∃ m, at_ = m + 1 := ⟨at_ - 1, by omega⟩
      exact hhd
  rw [parse_sg (by rw [head_app hta]; exact head_all hta hall.1)]
  have := parse_both (n := n) (t := []) (b := 69) (x := e + (l.length - at_ : Nat)) hta hall.1 (.inl hh) hda hall.2 (by decide) (by omega) (by omega) Stop.nil (d := (n, dv l, e)) (by
    rw [List.take_append_drop, List.length_drop]
    exact make_right (p := 0) (z := 0) h (by simp) k2 (by omega) (by omega) (by omega) (by omega))
  rw [List.append_nil] at this
  exact this
/-- A point that stays where it is. -/
theorem parse_still {n : Bool} {l : List UInt8} {e : Int} (h : rightD n l e = true) : parseR (sgL n (l ++ 69 :: numL e)) = some ((n, dv l, e), []) := by
  obtain ⟨g1, g2, g3, g4⟩ := right_parts h
  obtain ⟨k1, k2, k3, k4⟩ := isNat_parts g1
  have k3' : l.head? ≠ some 48 ∨ l.length = 1 := by
    rcases k3 with g | g
    · exact .inl g
    · exact .inr (by rw [g]; rfl)
  rw [parse_sg (by rw [head_app k1]; exact head_all k1 k4)]
  have := parse_exp (n := n) (t := []) (b := 69) (x := e) k1 k4 k3' (by decide) (by omega) (by omega) Stop.nil (d := (n, dv l, e)) (make_right (p := 0) (z := 0) h (by simp) k2 (by omega) (by omega) (by omega) (by omega))
  rw [List.append_nil] at this
  exact this
/-- The sign counts only at 0. -/
theorem right_sign {l : List UInt8} {e : Int} (h : l ≠ [48]) : rightD true l e = rightD false l e := by
  cases hn : isNat l with
  | false => rw [rightD_nat hn, rightD_nat hn]
  | true =>
    by_cases hl : 100 < l.length
    · rw [rightD_long hl, rightD_long hl]
    · rw [rightD_more hn (by omega) h, rightD_more hn (by omega) h]
theorem right_neg0 {e : Int} : rightD true [48] e = false := by rw [rightD_zero]; simp
end Go.Proofs.YtifccjchpciicaaGreatDoor
