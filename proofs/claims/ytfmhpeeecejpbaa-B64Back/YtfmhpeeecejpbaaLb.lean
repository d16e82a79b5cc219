/- The walks of B64Back and B64Turns. -/
import Derived.Test.YtfmhpeeecejpbaaLw
namespace Go.Proofs.Ytfmhpeeecejpbaa
open Go.RowKit

set_option maxRecDepth 100000 in
set_option maxHeartbeats 1000000 in
theorem back_walk (s t a b c d : ByteArray) (e f g h : Int) (w : World) (htab : Tb w)
    (h1 : Ans 10 #[.string (cutB s)] (.tuple #[.string a, .int .i64 e])) (h2 : Ans 13 #[.string a] (.tuple #[.string b, .int .i64 f]))
    (h3 : Ans 13 #[.string (cutB t)] (.tuple #[.string c, .int .i64 g])) (h4 : Ans 10 #[.string c] (.tuple #[.string d, .int .i64 h]))
    (h5 : (e = 0 ∧ f = 0 ∧ b = cutB s ∧ (cutB s).size ≤ 400) ∨ (e = 30 ∧ 400 < (cutB s).size)) (h6 : (g = 0 ∧ h = 0 ∧ d = cutB t) ∨ g = 30) :
    Calls Try.prog 5 #[.string s, .string t] w fun e w' => e = .returned (.bool true) ∧ Below w.heap.size w w' := by
  have HT := Lib.hid htab
  have H1 := Lib.hid h1
  have H2 := Lib.hid h2
  have H3 := Lib.hid h3
  have H4 := Lib.hid h4
  clear htab h1 h2 h3 h4
  go_enter Try.func5, Try.ntmps5
  go_wp2_with (first
    | (go_at_call 9; refine (shown_calls _ HT.out).mono ?_; rintro e w1 ⟨rfl, hb1⟩; have HB1 := Lib.hid hb1; have HT1 := Lib.hid (HT.out.below hb1); clear hb1)
    | (go_at_call 11; refine (cut_calls _ _).mono ?_; rintro e w2 ⟨rfl, rfl⟩))
  refine (H1.out _ HT1.out).mono ?_
  rintro e' w2 ⟨rfl, hb2⟩
  have HB2 := Lib.hid (HB1.out.trans (hb2.mono HB1.out.size)); have HT2 := Lib.hid (HT1.out.below hb2); clear hb2
  go_wp2_with fail
  refine (H2.out _ HT2.out).mono ?_
  rintro e' w3 ⟨rfl, hb3⟩
  have HB3 := Lib.hid (HB2.out.trans (hb3.mono HB2.out.size)); have HT3 := Lib.hid (HT2.out.below hb3); clear hb3
  go_wp2_with (go_at_call 11; refine (cut_calls _ _).mono ?_; rintro e w2 ⟨rfl, rfl⟩)
  refine (H3.out _ HT3.out).mono ?_
  rintro e' w4 ⟨rfl, hb4⟩
  have HB4 := Lib.hid (HB3.out.trans (hb4.mono HB3.out.size)); have HT4 := Lib.hid (HT3.out.below hb4); clear hb4
  go_wp2_with fail
  refine (H4.out _ HT4.out).mono ?_
  rintro e' w5 ⟨rfl, hb5⟩
  have HB5 := Lib.hid (HB4.out.trans (hb5.mono HB4.out.size)); clear hb5 H1 H2 H3 H4
  rcases h5 with ⟨rfl, rfl, rfl, hs⟩ | ⟨rfl, hs⟩ <;> rcases h6 with ⟨rfl, rfl, rfl⟩ | rfl
  all_goals first
    | have hd : decide (((cutB s).size : Int) ≤ 400) = true := by simp; omega
    | have hd : decide (((cutB s).size : Int) ≤ 400) = false := by simp; omega
  all_goals go_wp2_with (go_at_call 11; refine (cut_calls _ _).mono ?_; rintro e w2 ⟨rfl, rfl⟩)
  all_goals go_ret
  all_goals exact ⟨rfl, HB5.out⟩

theorem raw_codeB (s : ByteArray) : rawB (codeB s) = s := str_inj (by rw [rawB_data, codeB_data, raw_code])
theorem code_rawB {t : ByteArray} (h : isCode t.data.toList = true) : codeB (rawB t) = t ∧ (rawB t).size ≤ 400 := by
  have := isCode_raw h
  exact ⟨str_inj (by rw [codeB_data, rawB_data, this.1]), by rw [← size_data, rawB_data]; exact this.2⟩

theorem any_dec (t : ByteArray) : ∃ c : ByteArray, ∃ g : Int, Ans 13 #[.string t] (.tuple #[.string c, .int .i64 g]) := by
  rcases ans_of_dec (fun w ht => Decode_calls t w ht) with ⟨_, a1⟩ | ⟨_, a1⟩
  · exact ⟨_, _, a1⟩
  · exact ⟨_, _, a1⟩
theorem any_code (t : ByteArray) : ∃ c : ByteArray, ∃ g : Int, Ans 10 #[.string t] (.tuple #[.string c, .int .i64 g]) := by
  rcases ans_code t with ⟨_, a1⟩ | ⟨_, a1⟩
  · exact ⟨_, _, a1⟩
  · exact ⟨_, _, a1⟩

theorem back_calls (s t : ByteArray) (w : World) (htab : Tb w) : Calls Try.prog 5 #[.string s, .string t] w fun e w' => e = .returned (.bool true) ∧ Below w.heap.size w w' := by
  have hS : ∃ a b : ByteArray, ∃ e f : Int, Ans 10 #[.string (cutB s)] (.tuple #[.string a, .int .i64 e]) ∧ Ans 13 #[.string a] (.tuple #[.string b, .int .i64 f]) ∧ ((e = 0 ∧ f = 0 ∧ b = cutB s ∧ (cutB s).size ≤ 400) ∨ (e = 30 ∧ 400 < (cutB s).size)) := by
    rcases ans_code (cutB s) with ⟨h1, a1⟩ | ⟨h1, a1⟩
    · rcases ans_of_dec (fun w ht => Decode_calls (codeB (cutB s)) w ht) with ⟨h2, a2⟩ | ⟨h2, a2⟩
      · rw [raw_codeB] at a2
        exact ⟨_, _, _, _, a1, a2, .inl ⟨rfl, rfl, rfl, h1⟩⟩
      · rw [codeB_data, isCode_code (by rw [size_data]; exact h1)] at h2; cases h2
    · obtain ⟨b, f, a2⟩ := any_dec noB
      exact ⟨_, _, _, _, a1, a2, .inr ⟨rfl, h1⟩⟩
  have hT : ∃ c d : ByteArray, ∃ g h : Int, Ans 13 #[.string (cutB t)] (.tuple #[.string c, .int .i64 g]) ∧ Ans 10 #[.string c] (.tuple #[.string d, .int .i64 h]) ∧ ((g = 0 ∧ h = 0 ∧ d = cutB t) ∨ g = 30) := by
    rcases ans_of_dec (fun w ht => Decode_calls (cutB t) w ht) with ⟨h1, a1⟩ | ⟨h1, a1⟩
    · obtain ⟨e1, e2⟩ := code_rawB h1
      rcases ans_code (rawB (cutB t)) with ⟨h2, a2⟩ | ⟨h2, a2⟩
      · rw [e1] at a2
        exact ⟨_, _, _, _, a1, a2, .inl ⟨rfl, rfl, rfl⟩⟩
      · omega
    · obtain ⟨b, f, a2⟩ := any_code noB
      exact ⟨_, _, _, _, a1, a2, .inr rfl⟩
  obtain ⟨a, b, e, f, h1, h2, h5⟩ := hS
  obtain ⟨c, d, g, h, h3, h4, h6⟩ := hT
  exact back_walk s t a b c d e f g h w htab h1 h2 h3 h4 h5 h6

set_option maxRecDepth 100000 in
set_option maxHeartbeats 1000000 in
theorem turns_walk (s t a b c d : ByteArray) (e f g h : Int) (w : World) (htab : Tb w)
    (h1 : Ans 16 #[.string (cutB s)] (.tuple #[.string a, .int .i64 e])) (h2 : Ans 18 #[.string a] (.tuple #[.string b, .int .i64 f]))
    (h3 : Ans 18 #[.string (cutB t)] (.tuple #[.string c, .int .i64 g])) (h4 : Ans 16 #[.string c] (.tuple #[.string d, .int .i64 h]))
    (h5 : (e = 0 ∧ f = 0 ∧ b = cutB s ∧ (cutB s).size ≤ 400 ∧ a.size = 2 * (cutB s).size) ∨ (e = 30 ∧ 400 < (cutB s).size)) (h6 : (g = 0 ∧ h = 0 ∧ d = cutB t) ∨ g = 30) :
    Calls Try.prog 6 #[.string s, .string t] w fun e w' => e = .returned (.bool true) ∧ Below w.heap.size w w' := by
  have HT := Lib.hid htab
  have H1 := Lib.hid h1
  have H2 := Lib.hid h2
  have H3 := Lib.hid h3
  have H4 := Lib.hid h4
  clear htab h1 h2 h3 h4
  go_enter Try.func6, Try.ntmps6
  go_wp2_with (first
    | (go_at_call 9; refine (shown_calls _ HT.out).mono ?_; rintro e w1 ⟨rfl, hb1⟩; have HB1 := Lib.hid hb1; have HT1 := Lib.hid (HT.out.below hb1); clear hb1)
    | (go_at_call 11; refine (cut_calls _ _).mono ?_; rintro e w2 ⟨rfl, rfl⟩))
  refine (H1.out _ HT1.out).mono ?_
  rintro e' w2 ⟨rfl, hb2⟩
  have HB2 := Lib.hid (HB1.out.trans (hb2.mono HB1.out.size)); have HT2 := Lib.hid (HT1.out.below hb2); clear hb2
  go_wp2_with fail
  refine (H2.out _ HT2.out).mono ?_
  rintro e' w3 ⟨rfl, hb3⟩
  have HB3 := Lib.hid (HB2.out.trans (hb3.mono HB2.out.size)); have HT3 := Lib.hid (HT2.out.below hb3); clear hb3
  go_wp2_with (go_at_call 11; refine (cut_calls _ _).mono ?_; rintro e w2 ⟨rfl, rfl⟩)
  refine (H3.out _ HT3.out).mono ?_
  rintro e' w4 ⟨rfl, hb4⟩
  have HB4 := Lib.hid (HB3.out.trans (hb4.mono HB3.out.size)); have HT4 := Lib.hid (HT3.out.below hb4); clear hb4
  go_wp2_with fail
  refine (H4.out _ HT4.out).mono ?_
  rintro e' w5 ⟨rfl, hb5⟩
  have HB5 := Lib.hid (HB4.out.trans (hb5.mono HB4.out.size)); clear hb5 H1 H2 H3 H4
  rcases h5 with ⟨rfl, rfl, rfl, hs, hz⟩ | ⟨rfl, hs⟩ <;> rcases h6 with ⟨rfl, rfl, rfl⟩ | rfl
  all_goals first
    | have hd : decide (((cutB s).size : Int) ≤ 400) = true := by simp; omega
    | have hd : decide (((cutB s).size : Int) ≤ 400) = false := by simp; omega
  all_goals go_wp2_with (go_at_call 11; refine (cut_calls _ _).mono ?_; rintro e w2 ⟨rfl, rfl⟩)
  all_goals go_ret
  all_goals exact ⟨rfl, HB5.out⟩

theorem unp_pairB (s : ByteArray) : unpB (pairB s) = s := str_inj (by rw [unpB_data, pairB_data, unpair_pairs])
theorem pair_unpB {t : ByteArray} (h : isPairs t.data.toList = true) : pairB (unpB t) = t ∧ (unpB t).size ≤ 400 := by
  simp only [isPairs, Bool.and_eq_true, decide_eq_true_eq] at h
  obtain ⟨⟨h1, h2⟩, h3⟩ := h
  refine ⟨str_inj (by rw [pairB_data, unpB_data, pairs_unpair _ h2 h3]), ?_⟩
  rw [← size_data, unpB_data, unpair_len]
  omega
theorem pairB_size (s : ByteArray) : (pairB s).size = 2 * s.size := by rw [← size_data, pairB_data, pairs_len, size_data]

theorem any_unp (t : ByteArray) : ∃ c : ByteArray, ∃ g : Int, Ans 18 #[.string t] (.tuple #[.string c, .int .i64 g]) := by
  rcases ans_of_unp (fun w ht => Unpair_calls t w ht) with ⟨_, a1⟩ | ⟨_, a1⟩
  · exact ⟨_, _, a1⟩
  · exact ⟨_, _, a1⟩
theorem any_pair (t : ByteArray) : ∃ c : ByteArray, ∃ g : Int, Ans 16 #[.string t] (.tuple #[.string c, .int .i64 g]) := by
  rcases ans_pair t with ⟨_, a1⟩ | ⟨_, a1⟩
  · exact ⟨_, _, a1⟩
  · exact ⟨_, _, a1⟩

theorem turns_calls (s t : ByteArray) (w : World) (htab : Tb w) : Calls Try.prog 6 #[.string s, .string t] w fun e w' => e = .returned (.bool true) ∧ Below w.heap.size w w' := by
  have hS : ∃ a b : ByteArray, ∃ e f : Int, Ans 16 #[.string (cutB s)] (.tuple #[.string a, .int .i64 e]) ∧ Ans 18 #[.string a] (.tuple #[.string b, .int .i64 f]) ∧ ((e = 0 ∧ f = 0 ∧ b = cutB s ∧ (cutB s).size ≤ 400 ∧ a.size = 2 * (cutB s).size) ∨ (e = 30 ∧ 400 < (cutB s).size)) := by
    rcases ans_pair (cutB s) with ⟨h1, a1⟩ | ⟨h1, a1⟩
    · rcases ans_of_unp (fun w ht => Unpair_calls (pairB (cutB s)) w ht) with ⟨h2, a2⟩ | ⟨h2, a2⟩
      · rw [unp_pairB] at a2
        exact ⟨_, _, _, _, a1, a2, .inl ⟨rfl, rfl, rfl, h1, pairB_size _⟩⟩
      · rw [pairB_data, isPairs_pairs (by rw [size_data]; exact h1)] at h2; cases h2
    · obtain ⟨b, f, a2⟩ := any_unp noB
      exact ⟨_, _, _, _, a1, a2, .inr ⟨rfl, h1⟩⟩
  have hT : ∃ c d : ByteArray, ∃ g h : Int, Ans 18 #[.string (cutB t)] (.tuple #[.string c, .int .i64 g]) ∧ Ans 16 #[.string c] (.tuple #[.string d, .int .i64 h]) ∧ ((g = 0 ∧ h = 0 ∧ d = cutB t) ∨ g = 30) := by
    rcases ans_of_unp (fun w ht => Unpair_calls (cutB t) w ht) with ⟨h1, a1⟩ | ⟨h1, a1⟩
    · obtain ⟨e1, e2⟩ := pair_unpB h1
      rcases ans_pair (unpB (cutB t)) with ⟨h2, a2⟩ | ⟨h2, a2⟩
      · rw [e1] at a2
        exact ⟨_, _, _, _, a1, a2, .inl ⟨rfl, rfl, rfl⟩⟩
      · omega
    · obtain ⟨b, f, a2⟩ := any_pair noB
      exact ⟨_, _, _, _, a1, a2, .inr rfl⟩
  obtain ⟨a, b, e, f, h1, h2, h5⟩ := hS
  obtain ⟨c, d, g, h, h3, h4, h6⟩ := hT
  exact turns_walk s t a b c d e f g h w htab h1 h2 h3 h4 h5 h6
end Go.Proofs.Ytfmhpeeecejpbaa
