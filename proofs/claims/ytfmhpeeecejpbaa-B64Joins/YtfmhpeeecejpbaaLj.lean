/- The walks of B64Joins and B64Lengths. -/
import Derived.Test.YtfmhpeeecejpbaaLw
namespace Go.Proofs.Ytfmhpeeecejpbaa
open Go.RowKit

theorem codeB_size (s : ByteArray) : (codeB s).size = (4 * s.size + 2) / 3 := by rw [← size_data, codeB_data, code_len, size_data]
theorem codeB_app {s t : ByteArray} (h : s.size % 3 = 0) : codeB (s ++ t) = codeB s ++ codeB t := str_inj (by
  rw [codeB_data, ByteArray.data_append, Array.toList_append, ByteArray.data_append, Array.toList_append, codeB_data, codeB_data, code_app _ _ (by rw [size_data]; exact h)])
theorem code_small {s : ByteArray} (h : s.size ≤ 400) : Ans 10 #[.string s] (.tuple #[.string (codeB s), .int .i64 0]) := by
  rcases ans_code s with ⟨_, a1⟩ | ⟨h1, _⟩
  · exact a1
  · omega

/-- How a slice up to so many bytes comes in a walk. -/
def Cuts (n : Nat) (s A : ByteArray) : Prop := ((n : Int) < (s.size : Int) ∧ s.extract 0 n = A ∧ A.size ≤ n) ∨ ((s.size : Int) ≤ (n : Int) ∧ s = A)
theorem cuts (n : Nat) (s : ByteArray) : Cuts n s (cutN n s) := by
  by_cases h : n < s.size
  · exact .inl ⟨by omega, (cutN_long (by omega)).symm, by rw [cutN_size]; omega⟩
  · exact .inr ⟨by omega, (cutN_short (by omega)).symm⟩

set_option maxRecDepth 100000 in
set_option maxHeartbeats 2000000 in
theorem joins_walk (s t A S T a b : ByteArray) (w : World) (htab : Tb w) (hA : A.size ≤ 180) (hT : T.size ≤ 180)
    (h1 : Ans 10 #[.string S] (.tuple #[.string a, .int .i64 0])) (h2 : Ans 10 #[.string T] (.tuple #[.string b, .int .i64 0]))
    (h3 : Ans 10 #[.string (S ++ T)] (.tuple #[.string (a ++ b), .int .i64 0]))
    (hs : Cuts 180 s A) (hS : A.extract 0 (A.size / 3 * 3) = S) (ht : Cuts 180 t T) (hz : a.size = S.size / 3 * 4) (hS2 : S.size ≤ 180) (hb2 : b.size ≤ 400) :
    Calls Try.prog 7 #[.string s, .string t] w fun e w' => e = .returned (.bool true) ∧ Below w.heap.size w w' := by
  have HT := Lib.hid htab
  have H1 := Lib.hid h1
  have H2 := Lib.hid h2
  have H3 := Lib.hid h3
  have hzb : ((a.size : Int) == (S.size : Int) / 3 * 4) = true := by simp; omega
  have ha2 : a.size ≤ 400 := by omega
  clear htab h1 h2 h3 hz
  rcases hs with ⟨s1, s2, s3⟩ | ⟨s1, rfl⟩ <;> rcases ht with ⟨t1, t2, t3⟩ | ⟨t1, rfl⟩
  all_goals
    go_enter Try.func7, Try.ntmps7
    go_wp2_with (go_at_call 9; refine (shown_calls _ HT.out).mono ?_; rintro e w1 ⟨rfl, hb1⟩; have HB1 := Lib.hid hb1; have HT1 := Lib.hid (HT.out.below hb1); clear hb1)
    refine (H1.out _ HT1.out).mono ?_
    rintro e' w2 ⟨rfl, hb2⟩
    have HB2 := Lib.hid (HB1.out.trans (hb2.mono HB1.out.size)); have HT2 := Lib.hid (HT1.out.below hb2); clear hb2
    go_wp2_with fail
    refine (H2.out _ HT2.out).mono ?_
    rintro e' w3 ⟨rfl, hb3⟩
    have HB3 := Lib.hid (HB2.out.trans (hb3.mono HB2.out.size)); have HT3 := Lib.hid (HT2.out.below hb3); clear hb3
    go_wp2_with fail
    refine (H3.out _ HT3.out).mono ?_
    rintro e' w4 ⟨rfl, hb4⟩
    have HB4 := Lib.hid (HB3.out.trans (hb4.mono HB3.out.size)); clear hb4
    go_wp2
    go_ret
    exact ⟨rfl, HB4.out⟩

theorem joins_calls (s t : ByteArray) (w : World) (htab : Tb w) : Calls Try.prog 7 #[.string s, .string t] w fun e w' => e = .returned (.bool true) ∧ Below w.heap.size w w' := by
  have hA : (cutN 180 s).size ≤ 180 := by rw [cutN_size]; omega
  have hT : (cutN 180 t).size ≤ 180 := by rw [cutN_size]; omega
  obtain ⟨S, hS⟩ : ∃ S, (cutN 180 s).extract 0 ((cutN 180 s).size / 3 * 3) = S := ⟨_, rfl⟩
  have hs : S.size = (cutN 180 s).size / 3 * 3 := by rw [← hS, ByteArray.size_extract]; omega
  have h3 := code_small (s := S ++ cutN 180 t) (by rw [ByteArray.size_append]; omega)
  rw [codeB_app (by omega)] at h3
  exact joins_walk s t _ S _ (codeB S) (codeB (cutN 180 t)) w htab hA hT (code_small (by omega)) (code_small (by omega)) h3 (cuts 180 s) hS (cuts 180 t) (by rw [codeB_size]; omega) (by omega) (by rw [codeB_size]; omega)

theorem lett_cases {c : Nat} (h : numb c < 64) : (65 ≤ c ∧ c ≤ 90) ∨ (97 ≤ c ∧ c ≤ 122) ∨ (48 ≤ c ∧ c ≤ 57) ∨ c = 45 ∨ c = 95 := by
  unfold numb at h
  by_cases h1 : 65 ≤ c ∧ c ≤ 90
  · exact .inl h1
  by_cases h2 : 97 ≤ c ∧ c ≤ 122
  · exact .inr (.inl h2)
  by_cases h3 : 48 ≤ c ∧ c ≤ 57
  · exact .inr (.inr (.inl h3))
  by_cases h4 : c = 45
  · exact .inr (.inr (.inr (.inl h4)))
  by_cases h5 : c = 95
  · exact .inr (.inr (.inr (.inr h5)))
  · rw [if_neg h1, if_neg h2, if_neg h3, if_neg h4, if_neg h5] at h; omega

set_option maxRecDepth 100000 in
set_option maxHeartbeats 2000000 in
theorem lens_walk (s S a : ByteArray) (w : World) (htab : Tb w) (hS : S.size ≤ 400) (hs : Cuts 400 s S)
    (h1 : Ans 10 #[.string S] (.tuple #[.string a, .int .i64 0])) (h2 : Ans 15 #[.string a] (.bool true)) (hz : a.size = (4 * S.size + 2) / 3) (hal : ∀ p, p < a.size → numb (byteAt a p).toNat < 64) :
    Calls Try.prog 8 #[.string s] w fun e w' => e = .returned (.bool true) ∧ Below w.heap.size w w' := by
  have HT := Lib.hid htab
  have H1 := Lib.hid h1
  have H2 := Lib.hid h2
  have HAL := Lib.hid hal
  have hzb : ((a.size : Int) == (4 * (S.size : Int) + 2) / 3) = true := by simp; omega
  have ha2 : a.size ≤ 600 := by omega
  clear htab h1 h2 hz hal
  rcases hs with ⟨s1, s2, s3⟩ | ⟨s1, rfl⟩
  all_goals
    go_enter Try.func8, Try.ntmps8
    go_wp2_with (go_at_call 9; refine (shown_calls _ HT.out).mono ?_; rintro e w1 ⟨rfl, hb1⟩; have HB1 := Lib.hid hb1; have HT1 := Lib.hid (HT.out.below hb1); clear hb1)
    refine (H1.out _ HT1.out).mono ?_
    rintro e' w2 ⟨rfl, hb2⟩
    have HB2 := Lib.hid (HB1.out.trans (hb2.mono HB1.out.size)); have HT2 := Lib.hid (HT1.out.below hb2); clear hb2
    go_wp2_with fail
    go_loop [6] (fun i => ∃ k : Nat, i = .int .i64 k ∧ k ≤ a.size) (fun i => a.size - (intOf i).toNat)
    case atStart => exact ⟨0, rfl, Nat.zero_le _⟩
    case round =>
      obtain ⟨k, rfl, hk⟩ := hrel
      by_cases hlt : k < a.size
      · have e0 : (a[k]'hlt).toNat = (byteAt a k).toNat := by rw [byteAt_eq a k hlt]
        have hcs := lett_cases (HAL.out k hlt)
        obtain ⟨c, hc⟩ : ∃ c, c = (byteAt a k).toNat := ⟨_, rfl⟩
        rw [← hc] at e0 hcs
        clear hc
        rcases hcs with ⟨c1, c2⟩ | ⟨c1, c2⟩ | ⟨c1, c2⟩ | rfl | rfl
        all_goals
          go_wp2
          go_round
          case rel => exact ⟨k + 1, by go_num, by omega⟩
          case measure => simp [intOf]; omega
      · go_wp2_with (go_at_call 15; refine (H2.out _ HT2.out).mono ?_; rintro e' w3 ⟨rfl, hb3⟩; have HB3 := Lib.hid (HB2.out.trans (hb3.mono HB2.out.size)); clear hb3)
        go_ret
        exact ⟨rfl, HB3.out⟩

theorem lens_calls (s : ByteArray) (w : World) (htab : Tb w) : Calls Try.prog 8 #[.string s] w fun e w' => e = .returned (.bool true) ∧ Below w.heap.size w w' := by
  have hS : (cutN 400 s).size ≤ 400 := by rw [cutN_size]; omega
  have hc : isCode (codeB (cutN 400 s)).data.toList = true := by rw [codeB_data]; exact isCode_code (by rw [size_data]; exact hS)
  exact lens_walk s _ (codeB (cutN 400 s)) w htab hS (cuts 400 s) (code_small hS) (isCode_ans hc) (codeB_size _) (fun p hp => code_letters hc hp)
end Go.Proofs.Ytfmhpeeecejpbaa
