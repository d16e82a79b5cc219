/- The walk of FloatTurns. -/
import Derived.Test.YtgcalhnfoakggaaDoorK3
namespace Go.Proofs.YtgcalhnfoakggaaDoor
open Go.RowKit
open Go.Lib (decDigits nDigits)

theorem trV_parts0 (o : Option Nat) : trV o = .tuple #[.int .u64 ((o.getD 0 : Nat) : Int), .bool o.isSome] := by cases o <;> rfl
/-- A text cut. -/
def cutB (k : Nat) (s : ByteArray) : ByteArray := s.extract 0 (min s.size k)

set_option maxRecDepth 100000 in
set_option maxHeartbeats 400000 in
theorem turns_walk (b : Nat) (n : Bool) (s t : ByteArray) (e : Int) (n1 : Bool) (s1 : ByteArray) (x1 E1 : Int) (b1 : Nat) (ok1 : Bool) (c : Nat) (is : Bool) (n2 : Bool) (s2 : ByteArray) (x2 E2 : Int) (r : Bool) (w : World) (hT : Tf w) (ht : t = cutB 150 s) (hs : s.size ≤ maxLen)
    (h1 : Ans 8 #[.int .u64 (b : Int)] (.tuple #[.agg #[.bool n1, .string s1, .int .i64 x1], .int .i64 E1]))
    (h2 : Ans 9 #[.agg #[.bool n1, .string s1, .int .i64 x1]] (.tuple #[.int .u64 (b1 : Int), .bool ok1]))
    (h3 : Ans 9 #[.agg #[.bool n, .string t, .int .i64 e]] (.tuple #[.int .u64 (c : Int), .bool is]))
    (h4 : Ans 8 #[.int .u64 (c : Int)] (.tuple #[.agg #[.bool n2, .string s2, .int .i64 x2], .int .i64 E2]))
    (h5 : Ans 10 #[.agg #[.bool n1, .string s1, .int .i64 x1]] (.bool r))
    (hc1 : (E1 ≠ 0) ∨ (E1 = 0 ∧ ok1 = true ∧ r = true ∧ (b1 = b ∧ b ≠ 9223372036854775808 ∨ b = 9223372036854775808 ∧ b1 = 0)))
    (hc2 : is = false ∨ (is = true ∧ E2 = 0 ∧ n2 = n ∧ s2 = t ∧ x2 = e)) :
    Calls Tryd.prog 3 #[.int .u64 (b : Int), .agg #[.bool n, .string s, .int .i64 e]] w (BoolP true w) := by
  unfold maxLen at hs
  have H1 := Lib.hid h1
  have H2 := Lib.hid h2
  have H3 := Lib.hid h3
  have H4 := Lib.hid h4
  have H5 := Lib.hid h5
  have HC1 := Lib.hid hc1
  have HC2 := Lib.hid hc2
  have HT := Lib.hid hT
  have hcut : s.extract 0 (min (s.size : Int) 150).toNat = t := by rw [ht, cutB, ← show (min (s.size : Int) 150).toNat = min s.size 150 from by omega]
  have hcl : (min (s.size : Int) 150) ≤ s.size := by omega
  have hcl0 : 0 ≤ (min (s.size : Int) 150) := by omega
  clear h1 h2 h3 h4 h5 hc1 hc2 hT ht
  have D0 := Lib.hid (At.new w #[.bool n, .string s, .int .i64 e] 24)
  have B0 := Lib.hid (below_al (Below.refl _ w) (.cells #[.bool n, .string s, .int .i64 e] 24))
  go_enter Tryd.func3, Tryd.ntmps3
  go_wp2_with fail
  refine (shown_calls _ (HT.out.below B0.out)).mono ?_
  rintro o w1 ⟨rfl, hb1⟩
  have D1 := Lib.hid (D0.out.below hb1)
  have B1 := Lib.hid (below_next B0.out hb1)
  clear hb1 B0 D0
  have c0 := D1.out.c 0 rfl
  have c1 := D1.out.c 1 rfl
  have c2 := D1.out.c 2 rfl
  have f1 := D1.out.f 1
  have hz := D1.out.lt
  go_wp2_with fail
  have D2 := Lib.hid (show At (w1.setCell ⟨w.heap.size, 1, none⟩ (.string t)) w.heap.size #[.bool n, .string t, .int .i64 e] 24 from heap_setCell_same w1 w.heap.size 1 _ _ _ D1.out)
  have B2 := Lib.hid (B1.out.setCell (p := ⟨w.heap.size, 1, none⟩) (Nat.le_refl _) (.string t))
  obtain ⟨W2, hW2⟩ : ∃ W2, W2 = w1.setCell ⟨w.heap.size, 1, none⟩ (.string t) := ⟨_, rfl⟩
  rw [← hW2] at D2 B2 ⊢
  clear hW2 c0 c1 c2 f1 hz D1 B1
  refine (H1.out _ (HT.out.below B2.out)).mono ?_
  rintro o w3 ⟨rfl, hb3⟩
  have D3 := Lib.hid ((D2.out.below hb3).alloc (.cells #[.bool n1, .string s1, .int .i64 x1] 24))
  have X3 := Lib.hid (At.new w3 #[.bool n1, .string s1, .int .i64 x1] 24)
  have B3 := Lib.hid (below_al (below_next B2.out hb3) (.cells #[.bool n1, .string s1, .int .i64 x1] 24))
  clear hb3 D2 B2
  go_wp2_with fail
  refine (H2.out _ (HT.out.below B3.out)).mono ?_
  rintro o w4 ⟨rfl, hb4⟩
  have D4 := Lib.hid (D3.out.below hb4)
  have X4 := Lib.hid (X3.out.below hb4)
  have B4 := Lib.hid (below_next B3.out hb4)
  clear hb4 D3 X3 B3
  have c0 := D4.out.c 0 rfl
  have c1 := D4.out.c 1 rfl
  have c2 := D4.out.c 2 rfl
  have hcase : ((E1 == 0) = false ∧ (E1 != 0) = true) ∨ (E1 = 0 ∧ ok1 = true ∧ r = true ∧ ((((b1 : Int) != (b : Int)) = false ∧ ((b : Int) == 9223372036854775808) = false ∧ ((b : Int) != 9223372036854775808) = true) ∨ (((b1 : Int) != (b : Int)) = true ∧ ((b : Int) == 9223372036854775808) = true ∧ ((b : Int) != 9223372036854775808) = false ∧ ((b1 : Int) != 0) = false))) := by
    rcases HC1.out with h | ⟨h1, h2, h3, h4⟩
    · exact .inl ⟨by simpa using h, by simpa using h⟩
    · refine .inr ⟨h1, h2, h3, ?_⟩
      rcases h4 with ⟨h4, h5⟩ | ⟨h4, h5⟩
      · exact .inl ⟨by rw [h4]; simp, by simp; omega, by simp; omega⟩
      · exact .inr ⟨by simp; omega, by simp; omega, by simp; omega, by simp; omega⟩
  rcases hcase with ⟨q1, q2⟩ | ⟨rfl, rfl, rfl, ⟨q1, q2, q3⟩ | ⟨q1, q2, q3, q4⟩⟩
  all_goals
    go_wp2_with fail
    refine (H3.out _ (HT.out.below B4.out)).mono ?_
    rintro o w5 ⟨rfl, hb5⟩
    have D5 := Lib.hid (D4.out.below hb5)
    have X5 := Lib.hid (X4.out.below hb5)
    have B5 := Lib.hid (below_next B4.out hb5)
    clear hb5 D4 X4 B4 c0 c1 c2
    go_wp2_with fail
    refine (H4.out _ (HT.out.below B5.out)).mono ?_
    rintro o w6 ⟨rfl, hb6⟩
    have D6 := Lib.hid (D5.out.below hb6)
    have X6 := Lib.hid (X5.out.below hb6)
    have B6 := Lib.hid (below_al (below_next B5.out hb6) (.cells #[.bool n2, .string s2, .int .i64 x2] 24))
    have Y6 := Lib.hid (At.new w6 #[.bool n2, .string s2, .int .i64 x2] 24)
    have D6a := Lib.hid (D6.out.alloc (.cells #[.bool n2, .string s2, .int .i64 x2] 24))
    clear hb6 D5 X5 B5
    have c0 := D6.out.c 0 rfl
    have c1 := D6.out.c 1 rfl
    have c2 := D6.out.c 2 rfl
    have l1 := D6.out.lt
    have l2 := X6.out.lt
    have e0 := X6.out.c 0 rfl
    have e1 := X6.out.c 1 rfl
    have e2 := X6.out.c 2 rfl
    rcases HC2.out with rfl | ⟨rfl, rfl, rfl, rfl, rfl⟩
    all_goals
      clear HC1 HC2
      go_wp2_with (go_at_call 10; refine (H5.out _ (HT.out.below B6.out)).mono ?_; rintro o w8 ⟨rfl, hb8⟩; have B8 := Lib.hid (below_next B6.out hb8); have Y8 := Lib.hid (Y6.out.below hb8); have D8 := Lib.hid (D6a.out.below hb8); clear c0 c1 c2 e0 e1 e2; have c0 := D8.out.c 0 rfl; have c1 := D8.out.c 1 rfl; have c2 := D8.out.c 2 rfl; have y0 := Y8.out.c 0 rfl; have y1 := Y8.out.c 1 rfl; have y2 := Y8.out.c 2 rfl; clear hb8)
      go_ret
      first | exact ⟨rfl, B8.out⟩ | exact ⟨rfl, B6.out⟩

theorem ans_odr (n : Bool) (s : ByteArray) (e : Int) : Ans 9 #[.agg #[.bool n, .string s, .int .i64 e]] (.tuple #[.int .u64 (((odR n s e).getD 0 : Nat) : Int), .bool (odR n s e).isSome]) := fun W h => by
  have := OfDec_calls n s e W h
  rw [trV_parts0] at this
  exact this
theorem decOf_right {b : Nat} {r : Bool × Nat × Int} (h : decOf b = some r) : rightD r.1 (decDigits r.2.1) r.2.2 = true := by
  by_cases hz : mantN b = 0
  · rw [decOf, if_pos hz] at h
    cases h
    rw [show decDigits 0 = [48] from by rw [Lib.decDigits_one (by omega)]; rfl, rightD_zero]; rfl
  · rw [decOf, if_neg hz, decX] at h
    split at h
    · exact (make_is_right h).1
    · exact (make_is_right h).1
theorem mant_zero {b : Nat} (hb : b < 18446744073709551616) (h : mantN b = 0) : b = 0 ∨ b = 9223372036854775808 := by
  rw [mantN] at h
  split at h <;> omega
theorem turns_calls (b : Nat) (n : Bool) (s : ByteArray) (e : Int) (w : World) (hb : b < 18446744073709551616) (hs : s.size ≤ maxLen) (hT : Tf w) :
    Calls Tryd.prog 3 #[.int .u64 (b : Int), .agg #[.bool n, .string s, .int .i64 e]] w (BoolP true w) := by
  obtain ⟨t, ht⟩ : ∃ t, t = cutB 150 s := ⟨_, rfl⟩
  have hcl : (odR n t e).getD 0 < 18446744073709551616 := by
    cases h : odR n t e with
    | none => decide
    | some c =>
      rw [odR] at h
      split at h
      · rename_i hr
        have hd : decDigits (dv t.data.toList) = t.data.toList := dec_dv (right_parts hr).1
        rw [← hd] at hr
        exact (turn2 hr h).1
      · cases h
  refine turns_walk b n s t e (dN (tdR b)) (dS (tdR b)) (dX (tdR b)) (tdE b) ((odR (dN (tdR b)) (dS (tdR b)) (dX (tdR b))).getD 0) (odR (dN (tdR b)) (dS (tdR b)) (dX (tdR b))).isSome ((odR n t e).getD 0) (odR n t e).isSome (dN (tdR ((odR n t e).getD 0))) (dS (tdR ((odR n t e).getD 0))) (dX (tdR ((odR n t e).getD 0))) (tdE ((odR n t e).getD 0)) (rightD (dN (tdR b)) (dS (tdR b)).data.toList (dX (tdR b))) w hT ht hs (ans_td hb) (ans_odr _ _ _) (ans_odr _ _ _) (ans_td hcl) (fun W _ => pRight_calls _ _ _ W) ?_ ?_
  · cases hf : isFin b with
    | false =>
      left
      rw [tdE, hf, if_neg (by decide)]; decide
    | true =>
      have h1 : tdR b = decOf b ∧ tdE b = decE (decOf b) := by rw [tdR, tdE, hf]; exact ⟨rfl, rfl⟩
      rw [h1.1, h1.2]
      cases hd : decOf b with
      | none => left; decide
      | some r =>
        obtain ⟨r1, r2, r3⟩ := r
        have hr := decOf_right hd
        simp only at hr
        have ht1 := turn1 hb hd
        have ho : odR r1 (decB r2) r3 = some (if mantN b = 0 then 0 else b) := by
          rw [odR, decB_data, hr, if_pos rfl, dv_dec, ht1]
        right
        refine ⟨rfl, ?_, ?_, ?_⟩
        · show (odR r1 (decB r2) r3).isSome = true
          rw [ho]; rfl
        · show rightD r1 (decB r2).data.toList r3 = true
          rw [decB_data]; exact hr
        · show ((odR r1 (decB r2) r3).getD 0 = b ∧ b ≠ 9223372036854775808 ∨ b = 9223372036854775808 ∧ (odR r1 (decB r2) r3).getD 0 = 0)
          rw [ho, Option.getD_some]
          by_cases hz : mantN b = 0
          · rw [if_pos hz]
            rcases mant_zero hb hz with h | h
            · exact .inl ⟨h.symm, by omega⟩
            · exact .inr ⟨h, rfl⟩
          · rw [if_neg hz]
            refine .inl ⟨rfl, fun h => hz (by rw [h]; decide)⟩
  · cases h : odR n t e with
    | none => exact .inl rfl
    | some c =>
      right
      rw [odR] at h
      split at h
      · rename_i hr
        have hd : decDigits (dv t.data.toList) = t.data.toList := dec_dv (right_parts hr).1
        rw [← hd] at hr
        obtain ⟨g1, g2, g3⟩ := turn2 hr h
        have htd : tdR c = some (n, dv t.data.toList, e) ∧ tdE c = 0 := by rw [tdR, tdE, if_pos g2, if_pos g2, g3]; exact ⟨rfl, rfl⟩
        show true = true ∧ tdE c = 0 ∧ dN (tdR c) = n ∧ dS (tdR c) = t ∧ dX (tdR c) = e
        rw [htd.1, htd.2]
        refine ⟨rfl, rfl, rfl, ?_, rfl⟩
        show decB (dv t.data.toList) = t
        exact str_inj (by rw [decB_data]; exact hd)
      · cases h
end Go.Proofs.YtgcalhnfoakggaaDoor
