/- The walk of FloatSigns. -/
import Derived.Test.YtgcalhnfoakggaaDoorK1
namespace Go.Proofs.YtgcalhnfoakggaaDoor
open Go.RowKit
open Go.Lib (decDigits nDigits)

theorem xor_low {a : Nat} (ha : a < 2 ^ 63) : a ^^^ 2 ^ 63 = 2 ^ 63 + a := by
  apply Nat.eq_of_testBit_eq
  intro i
  rw [Nat.testBit_xor, Nat.testBit_two_pow]
  rcases Nat.lt_trichotomy i 63 with h | h | h
  · rw [Nat.testBit_two_pow_add_gt h, show decide (63 = i) = false from by simp; omega, Bool.xor_false]
  · subst h
    rw [Nat.testBit_two_pow_add_eq, Nat.testBit_lt_two_pow ha]; rfl
  · have h1 : 2 ^ 64 ≤ 2 ^ i := Nat.pow_le_pow_right (by decide) h
    have h2 : (2 : Nat) ^ 64 = 2 ^ 63 + 2 ^ 63 := by decide
    rw [Nat.testBit_lt_two_pow (Nat.lt_of_lt_of_le (show a < 2 ^ 64 by omega) h1), Nat.testBit_lt_two_pow (Nat.lt_of_lt_of_le (show 2 ^ 63 + a < 2 ^ 64 by omega) h1), show decide (63 = i) = false from by simp; omega]
    rfl
theorem xor_flip {a : Nat} (ha : a < 18446744073709551616) : a ^^^ 9223372036854775808 = flipN a := by
  have e : (2 : Nat) ^ 63 = 9223372036854775808 := by decide
  rw [flipN]
  split
  · rename_i h
    have := xor_low (a := a) (by rw [e]; exact h)
    rw [e] at this
    omega
  · rename_i h
    have := xor_low (a := a - 9223372036854775808) (by rw [e]; omega)
    rw [e] at this
    have h2 : 9223372036854775808 + (a - 9223372036854775808) = a := by omega
    rw [h2] at this
    rw [show a ^^^ 9223372036854775808 = ((a - 9223372036854775808) ^^^ 9223372036854775808) ^^^ 9223372036854775808 from by rw [this], Nat.xor_assoc, Nat.xor_self, Nat.xor_zero]
theorem xor_64 {a : Nat} (ha : a < 18446744073709551616) : bits .xor .u64 (a : Int) 9223372036854775808 = ((flipN a : Nat) : Int) := by
  have := bits_xor_u64_nat a 9223372036854775808 ha (by decide)
  rw [xor_flip ha] at this
  exact this

set_option maxRecDepth 100000 in
set_option maxHeartbeats 400000 in
theorem signs_walk (b f : Nat) (n m : Bool) (s t : ByteArray) (x y E E' : Int) (l : Int) (fin : Bool) (w : World) (hT : Tf w) (hx : bits .xor .u64 (b : Int) 9223372036854775808 = (f : Int))
    (h1 : Ans 8 #[.int .u64 (b : Int)] (.tuple #[.agg #[.bool n, .string s, .int .i64 x], .int .i64 E]))
    (h2 : Ans 8 #[.int .u64 (f : Int)] (.tuple #[.agg #[.bool m, .string t, .int .i64 y], .int .i64 E']))
    (h3 : Ans 13 #[.int .u64 (b : Int)] (.int .i64 l))
    (h4 : Ans 13 #[.int .u64 (f : Int)] (.int .i64 l))
    (h5 : Ans 14 #[.int .u64 (b : Int)] (.bool fin))
    (hc : (((E ≠ 0 ∨ (E = 0 ∧ s.data.toList = [48])) ∧ E = E' ∧ n = m ∧ s = t ∧ x = y) ∨ (E = 0 ∧ s.data.toList ≠ [48] ∧ E' = 0 ∧ m = !n ∧ s = t ∧ x = y ∧ fin = true))) :
    Calls Tryd.prog 5 #[.int .u64 (b : Int)] w (BoolP true w) := by
  have H1 := Lib.hid h1
  have H2 := Lib.hid h2
  have H3 := Lib.hid h3
  have H4 := Lib.hid h4
  have H5 := Lib.hid h5
  have HC := Lib.hid hc
  have HT := Lib.hid hT
  clear h1 h2 h3 h4 h5 hc hT
  go_enter Tryd.func5, Tryd.ntmps5
  go_wp2_with fail
  refine (shown_calls _ HT.out).mono ?_
  rintro o w1 ⟨rfl, hb1⟩
  have B1 := Lib.hid hb1
  clear hb1
  go_wp2_with fail
  refine (H1.out _ (HT.out.below B1.out)).mono ?_
  rintro o w2 ⟨rfl, hb2⟩
  have B2 := Lib.hid (below_al (below_next B1.out hb2) (.cells #[.bool n, .string s, .int .i64 x] 24))
  have D2 := Lib.hid (At.new w2 #[.bool n, .string s, .int .i64 x] 24)
  have hws : w.heap.size ≤ w2.heap.size := (below_next B1.out hb2).size
  clear hb2 B1
  go_wp2_with fail
  refine (H2.out _ (HT.out.below B2.out)).mono ?_
  rintro o w3 ⟨rfl, hb3⟩
  have B3 := Lib.hid (below_al (below_next B2.out hb3) (.cells #[.bool m, .string t, .int .i64 y] 24))
  have E3 := Lib.hid (D2.out.below hb3)
  have HB3 := Lib.hid (below_next B2.out hb3)
  have hlt : w2.heap.size < w3.heap.size := by have := hb3.size; simp at this; omega
  have c0 := E3.out.c 0 rfl
  have c1 := E3.out.c 1 rfl
  have c2 := E3.out.c 2 rfl
  clear hb3 B2 D2
  rcases HC.out with ⟨h, rfl, rfl, rfl, rfl⟩ | ⟨rfl, hs, rfl, rfl, rfl, rfl, rfl⟩
  · rcases h with h | ⟨rfl, h⟩
    · have hE : (E != 0) = true := by simpa using h
      clear HC h
      go_wp2
      go_ret
      exact ⟨rfl, B3.out⟩
    · have hq : (s.toList == [48]) = true := by rw [Lib.toList_data, h]; rfl
      clear HC h
      go_wp2
      go_ret
      exact ⟨rfl, B3.out⟩
  · have hq : (s.toList == [48]) = false := by rw [Lib.toList_data]; exact beq_eq_false_iff_ne.2 hs
    have hq' : ¬ s.toList = [48] := by rw [Lib.toList_data]; exact hs
    have f0 := E3.out.f 0
    clear HC hs
    have B4 := Lib.hid (below_al (below1 HB3.out hws (.bool (!n))) (.cells #[.bool (!n), .string s, .int .i64 x] 24))
    go_wp2_with fail
    refine (H3.out _ (HT.out.below B4.out)).mono ?_
    rintro o w5 ⟨rfl, hb5⟩
    have B5 := Lib.hid (below_next B4.out hb5)
    clear hb5 B4
    go_wp2_with fail
    refine (H4.out _ (HT.out.below B5.out)).mono ?_
    rintro o w6 ⟨rfl, hb6⟩
    have B6 := Lib.hid (below_next B5.out hb6)
    clear hb6 B5
    go_wp2_with fail
    refine (H5.out _ (HT.out.below B6.out)).mono ?_
    rintro o w7 ⟨rfl, hb7⟩
    have B7 := Lib.hid (below_next B6.out hb7)
    clear hb7 B6
    go_wp2
    go_ret
    exact ⟨rfl, B7.out⟩
theorem ans_td {b : Nat} (hb : b < 18446744073709551616) : Ans 8 #[.int .u64 (b : Int)] (.tuple #[.agg #[.bool (dN (tdR b)), .string (dS (tdR b)), .int .i64 (dX (tdR b))], .int .i64 (tdE b)]) := fun W h => ToDec_calls b W hb h
theorem ans_least {b : Nat} (hb : b < 18446744073709551616) : Ans 13 #[.int .u64 (b : Int)] (.int .i64 (leastW b)) := fun W h => Least_calls b W hb h.1
theorem ans_fin {b : Nat} (hb : b < 18446744073709551616) : Ans 14 #[.int .u64 (b : Int)] (.bool (isFin b)) := fun W h => IsFinite_calls b W hb h.1
theorem dec_ne0 {c : Nat} (h : c ≠ 0) : decDigits c ≠ [48] := fun he => h (by have := congrArg dv he; rw [dv_dec] at this; exact this)

theorem signs_calls (b : Nat) (w : World) (hb : b < 18446744073709551616) (hT : Tf w) : Calls Tryd.prog 5 #[.int .u64 (b : Int)] w (BoolP true w) := by
  obtain ⟨g1, g2, g3, g4, g5⟩ := flip_parts hb
  refine signs_walk b (flipN b) (dN (tdR b)) (dN (tdR (flipN b))) (dS (tdR b)) (dS (tdR (flipN b))) (dX (tdR b)) (dX (tdR (flipN b))) (tdE b) (tdE (flipN b)) (leastW b) (isFin b) w hT (xor_64 hb) (ans_td hb) (ans_td g1) (ans_least hb) (by rw [← least_flip hb]; exact ans_least g1) (ans_fin hb) ?_
  cases hf : isFin b with
  | false =>
    have h1 : tdR b = none ∧ tdE b = 50 := by rw [tdR, tdE, hf]; exact ⟨rfl, rfl⟩
    have h2 : tdR (flipN b) = none ∧ tdE (flipN b) = 50 := by rw [tdR, tdE, g5, hf]; exact ⟨rfl, rfl⟩
    rw [h1.1, h1.2, h2.1, h2.2]
    exact .inl ⟨.inl (by decide), rfl, rfl, rfl, rfl⟩
  | true =>
    have h1 : tdR b = decOf b ∧ tdE b = decE (decOf b) := by rw [tdR, tdE, hf]; exact ⟨rfl, rfl⟩
    have h2 : tdR (flipN b) = decOf (flipN b) ∧ tdE (flipN b) = decE (decOf (flipN b)) := by rw [tdR, tdE, g5, hf]; exact ⟨rfl, rfl⟩
    rw [h1.1, h1.2, h2.1, h2.2]
    by_cases hm : mantN b = 0
    · have e1 : decOf b = some (false, 0, 0) := by rw [decOf, if_pos hm]
      have e2 : decOf (flipN b) = some (false, 0, 0) := by rw [decOf, if_pos (g2.trans hm)]
      rw [e1, e2]
      refine .inl ⟨.inr ⟨rfl, ?_⟩, rfl, rfl, rfl, rfl⟩
      show (decB 0).data.toList = [48]
      rw [decB_data, Lib.decDigits_one (by omega)]; rfl
    · rw [dec_flip hb hm]
      cases hd : decOf b with
      | none => exact .inl ⟨.inl (by decide), rfl, rfl, rfl, rfl⟩
      | some r =>
        obtain ⟨q1, q2⟩ := dec_sign hm hd
        obtain ⟨r1, r2, r3⟩ := r
        simp only at q1 q2
        subst q1
        refine .inr ⟨rfl, ?_, rfl, rfl, rfl, rfl, rfl⟩
        show (decB r2).data.toList ≠ [48]
        rw [decB_data]; exact dec_ne0 q2
end Go.Proofs.YtgcalhnfoakggaaDoor
