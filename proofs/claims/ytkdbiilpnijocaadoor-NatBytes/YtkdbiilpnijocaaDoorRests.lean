/- What NatTurns and NatRests ask, and the walk of NatRests. -/
import Derived.Test.YtkdbiilpnijocaaDoorTurns
namespace Go.Proofs.YtkdbiilpnijocaaDoor
open Go.RowKit
open Go.Lib (decDigits)

theorem Add_none (A B : ByteArray) (h : (isNat A.data.toList && isNat B.data.toList) = false) : Ans 15 #[.string A, .string B] (.tuple #[.string noB, .int .i64 10]) := fun w _ => Add_no A B w h
theorem Sub_nil (A B : ByteArray) (h : (isNat A.data.toList && isNat B.data.toList) = false) : Ans 17 #[.string A, .string B] (.tuple #[.string noB, .int .i64 10]) := fun w _ => Sub_no A B w h
theorem Mul_nil (A B : ByteArray) (h : (isNat A.data.toList && isNat B.data.toList) = false) : Ans 21 #[.string A, .string B] (.tuple #[.string noB, .int .i64 10]) := fun w _ => Mul_no A B w h
theorem Div_nil (A : ByteArray) (d : Nat) (h : isNat A.data.toList = false ∨ d = 0) : Ans 23 #[.string A, .int .u32 (d : Int)] (.tuple #[.string noB, .int .u32 0, .int .i64 10]) := fun w _ => Div_no A d w h
theorem Sub_ans (A B : ByteArray) (ha : isNat A.data.toList = true) (hb : isNat B.data.toList = true) (hle : dv B.data.toList ≤ dv A.data.toList) : Ans 17 #[.string A, .string B] (.tuple #[.string (decB (dv A.data.toList - dv B.data.toList)), .int .i64 0]) := fun w ht => Sub_is A B w ha hb hle ht
theorem Div_ans (A : ByteArray) (d : Nat) (ha : isNat A.data.toList = true) (h0 : 0 < d) (h1 : d < 4294967296) :
    Ans 23 #[.string A, .int .u32 (d : Int)] (.tuple #[.string (decB (dv A.data.toList / d)), .int .u32 ((dv A.data.toList % d : Nat) : Int), .int .i64 0]) := fun w ht =>
  (Div_yes A d w ha h0 h1 ht).mono fun e w' ⟨h2, h3⟩ => by
    have hl : dv A.data.toList / d < lim := Nat.lt_of_le_of_lt (Nat.div_le_self _ _) (dv_lim ha)
    rw [outS_lim hl, outE_lim hl] at h2
    exact ⟨h2, h3⟩

theorem nil_and (B : ByteArray) : (isNat noB.data.toList && isNat B.data.toList) = false := by rw [isNat_noB, Bool.false_and]

theorem turns_add (A B : ByteArray) : ∃ c d : ByteArray, ∃ e f : Int, Ans 15 #[.string A, .string B] (.tuple #[.string c, .int .i64 e]) ∧ Ans 17 #[.string c, .string B] (.tuple #[.string d, .int .i64 f]) ∧ (e ≠ 0 ∨ (e = 0 ∧ f = 0 ∧ d = A)) := by
  cases h : (isNat A.data.toList && isNat B.data.toList) with
  | false => exact ⟨noB, noB, 10, 10, Add_none A B h, Sub_nil _ _ (nil_and B), .inl (by decide)⟩
  | true =>
    obtain ⟨h1, h2⟩ := Bool.and_eq_true_iff.1 h
    rcases ans_tell (fun w ht => Add_yes A B w h1 h2 ht) with ⟨h3, h4⟩ | ⟨_, h4⟩
    · have h5 := Sub_ans (decB (dv A.data.toList + dv B.data.toList)) B (isNat_decB h3) h2 (by rw [dv_decB]; omega)
      rw [dv_decB, Nat.add_sub_cancel, decB_dv h1] at h5
      exact ⟨_, _, 0, 0, h4, h5, .inr ⟨rfl, rfl, rfl⟩⟩
    · exact ⟨noB, noB, 11, 10, h4, Sub_nil _ _ (nil_and B), .inl (by decide)⟩

theorem turns_mul (A : ByteArray) (d : Nat) (hd : d < 4294967296) : ∃ g i : ByteArray, ∃ h j r : Int, Ans 21 #[.string A, .string (decB d)] (.tuple #[.string g, .int .i64 h]) ∧ Ans 23 #[.string g, .int .u32 (d : Int)] (.tuple #[.string i, .int .u32 r, .int .i64 j]) ∧
    (h ≠ 0 ∨ (h = 0 ∧ d = 0) ∨ (h = 0 ∧ d ≠ 0 ∧ j = 0 ∧ i = A ∧ r = 0)) := by
  have hdl : d < lim := small_lim (by omega)
  cases ha : isNat A.data.toList with
  | false => exact ⟨noB, noB, 10, 10, 0, Mul_nil A _ (by rw [ha, Bool.false_and]), Div_nil _ _ (.inl isNat_noB), .inl (by decide)⟩
  | true =>
    rcases ans_tell (fun w ht => Mul_yes A (decB d) w ha (isNat_decB hdl) ht) with ⟨h3, h4⟩ | ⟨_, h4⟩
    · rw [dv_decB] at h3 h4
      by_cases h0 : d = 0
      · exact ⟨_, noB, 0, 10, 0, h4, Div_nil _ _ (.inr h0), .inr (.inl ⟨rfl, h0⟩)⟩
      · have h5 := Div_ans (decB (dv A.data.toList * d)) d (isNat_decB h3) (by omega) hd
        rw [dv_decB, Nat.mul_div_cancel _ (by omega), Nat.mul_mod_left, decB_dv ha] at h5
        exact ⟨_, _, 0, 0, 0, h4, h5, .inr (.inr ⟨rfl, h0, rfl, rfl, rfl⟩)⟩
    · exact ⟨noB, noB, 11, 10, 0, h4, Div_nil _ _ (.inl isNat_noB), .inl (by decide)⟩

theorem turns_calls (a b : ByteArray) (d : Nat) (hd : d < 4294967296) (w : World) (htab : Tab w) :
    Calls Tryd.prog 6 #[.string a, .string b, .int .u32 (d : Int)] w fun e w' => e = .returned (.bool true) ∧ Below w.heap.size w w' := by
  obtain ⟨c, d1, e, f, h1, h2, h3⟩ := turns_add (cutB a) (cutB b)
  obtain ⟨g, i, h, j, r, h4, h5, h6⟩ := turns_mul (cutB a) d hd
  exact turns_walk a b c d1 g i e f h j r d hd w htab h1 h2 h4 h5 h3 h6

def cutN (n : Nat) (s : ByteArray) : ByteArray := s.extract 0 (min s.size n)
theorem cutN_eq (n : Nat) (s : ByteArray) : s.extract 0 (min (s.size : Int) (n : Int)).toNat = cutN n s := by
  rw [cutN, show (min (s.size : Int) (n : Int)).toNat = min s.size n from by omega]

set_option maxRecDepth 100000 in
set_option maxHeartbeats 1000000 in
theorem rests_no (a : ByteArray) (d : Nat) (w : World) (htab : Tab w) (h : isNat (cutN 390 a).data.toList = false ∨ d = 0) :
    Calls Tryd.prog 8 #[.string a, .int .u32 (d : Int)] w fun e w' => e = .returned (.bool true) ∧ Below w.heap.size w w' := by
  have HT := Lib.hid htab
  have hcut : a.extract 0 (min (a.size : Int) 390).toNat = cutN 390 a := cutN_eq 390 a
  have HD := Lib.hid (Div_nil (cutN 390 a) d h)
  have hno : noB.toList = [] := by rw [ByteArray.toList_eq]; rfl
  clear htab h
  go_enter Tryd.func8, Tryd.ntmps8
  go_wp2_with (first
    | (go_at_call 11; refine (shown_calls _ HT.out).mono ?_; rintro e w1 ⟨rfl, hb1⟩; have HB1 := Lib.hid hb1; have HT1 := Lib.hid (HT.out.below hb1); clear hb1)
    | (go_at_call 23; refine (HD.out _ HT1.out).mono ?_; rintro e w2 ⟨rfl, hb2⟩; have HB2 := Lib.hid (HB1.out.trans (hb2.mono HB1.out.size)); clear hb2))
  go_ret
  exact ⟨rfl, HB2.out⟩

set_option maxRecDepth 100000 in
set_option maxHeartbeats 1000000 in
theorem rests_walk (a A : ByteArray) (hA : cutN 390 a = A) (d q r : Nat) (hd : d < 4294967296) (hr : r < d) (w : World) (htab : Tab w)
    (hDiv : Ans 23 #[.string A, .int .u32 (d : Int)] (.tuple #[.string (decB q), .int .u32 (r : Int), .int .i64 0]))
    (hMul : Ans 21 #[.string (decB q), .string (decB d)] (.tuple #[.string (decB (q * d)), .int .i64 0]))
    (hAdd : Ans 15 #[.string (decB (q * d)), .string (decB r)] (.tuple #[.string A, .int .i64 0])) :
    Calls Tryd.prog 8 #[.string a, .int .u32 (d : Int)] w fun e w' => e = .returned (.bool true) ∧ Below w.heap.size w w' := by
  have HT := Lib.hid htab
  have hcut : a.extract 0 (min (a.size : Int) 390).toNat = A := (cutN_eq 390 a).trans hA
  have HDiv := Lib.hid hDiv
  have HMul := Lib.hid hMul
  have HAdd := Lib.hid hAdd
  clear htab hDiv hMul hAdd hA
  go_enter Tryd.func8, Tryd.ntmps8
  go_wp2_with (first
    | (go_at_call 11; refine (shown_calls _ HT.out).mono ?_; rintro e w1 ⟨rfl, hb1⟩; have HB1 := Lib.hid hb1; have HT1 := Lib.hid (HT.out.below hb1); clear hb1)
    | (go_at_call 23; refine (HDiv.out _ HT1.out).mono ?_; rintro e w2 ⟨rfl, hb2⟩; have HB2 := Lib.hid (HB1.out.trans (hb2.mono HB1.out.size)); have HT2 := Lib.hid (HT1.out.below hb2); clear hb2))
  refine (Of_ans d (by omega) _ HT2.out).mono ?_
  rintro e w3 ⟨rfl, hb3⟩
  have HB3 := Lib.hid (HB2.out.trans (hb3.mono HB2.out.size)); have HT3 := Lib.hid (HT2.out.below hb3); clear hb3
  go_wp2_with (go_at_call 21; refine (HMul.out _ HT3.out).mono ?_; rintro e w4 ⟨rfl, hb4⟩; have HB4 := Lib.hid (HB3.out.trans (hb4.mono HB3.out.size)); have HT4 := Lib.hid (HT3.out.below hb4); clear hb4)
  refine (Of_ans r (by omega) _ HT4.out).mono ?_
  rintro e w5 ⟨rfl, hb5⟩
  have HB5 := Lib.hid (HB4.out.trans (hb5.mono HB4.out.size)); have HT5 := Lib.hid (HT4.out.below hb5); clear hb5
  go_wp2_with (go_at_call 15; refine (HAdd.out _ HT5.out).mono ?_; rintro e w6 ⟨rfl, hb6⟩; have HB6 := Lib.hid (HB5.out.trans (hb6.mono HB5.out.size)); clear hb6)
  go_ret
  exact ⟨rfl, HB6.out⟩

theorem rests_calls (a : ByteArray) (d : Nat) (hd : d < 4294967296) (w : World) (htab : Tab w) :
    Calls Tryd.prog 8 #[.string a, .int .u32 (d : Int)] w fun e w' => e = .returned (.bool true) ∧ Below w.heap.size w w' := by
  by_cases h : isNat (cutN 390 a).data.toList = false ∨ d = 0
  · exact rests_no a d w htab h
  · obtain ⟨h1, h0⟩ := not_or.1 h
    have ha : isNat (cutN 390 a).data.toList = true := by simpa using h1
    have hl := dv_lim ha
    have hdm := Nat.div_add_mod' (dv (cutN 390 a).data.toList) d
    have hq : dv (cutN 390 a).data.toList / d < lim := Nat.lt_of_le_of_lt (Nat.div_le_self _ _) hl
    refine rests_walk a _ rfl d _ _ hd (Nat.mod_lt _ (by omega)) w htab (Div_ans _ d ha (by omega) hd) ?_ ?_
    · rcases ans_tell (fun w ht => Mul_yes (decB (dv (cutN 390 a).data.toList / d)) (decB d) w (isNat_decB hq) (isNat_decB (small_lim (by omega))) ht) with ⟨_, h4⟩ | ⟨h3, _⟩
      · rw [dv_decB, dv_decB] at h4; exact h4
      · rw [dv_decB, dv_decB] at h3; omega
    · rcases ans_tell (fun w ht => Add_yes (decB (dv (cutN 390 a).data.toList / d * d)) (decB (dv (cutN 390 a).data.toList % d)) w (isNat_decB (by omega)) (isNat_decB (by have := Nat.mod_lt (dv (cutN 390 a).data.toList) (show d > 0 by omega); exact small_lim (by omega))) ht) with ⟨_, h4⟩ | ⟨h3, _⟩
      · rw [dv_decB, dv_decB, hdm, decB_dv ha] at h4; exact h4
      · rw [dv_decB, dv_decB] at h3; omega
end Go.Proofs.YtkdbiilpnijocaaDoor
