/- The walks of shown, cut and four laws. -/
import Derived.Test.YtfmhpeeecejpbaaCt
namespace Go.Proofs.Ytfmhpeeecejpbaa
open Go.RowKit

/-- A call that answers so in every world that holds what must be held, and keeps what was there. -/
def Ans (f : FuncId) (args : Array Value) (v : Value) : Prop := ∀ w, Tb w → Calls Try.prog f args w fun e w' => e = .returned v ∧ Below w.heap.size w w'

theorem ans_code (s : ByteArray) : (s.size ≤ 400 ∧ Ans 10 #[.string s] (.tuple #[.string (codeB s), .int .i64 0])) ∨ (400 < s.size ∧ Ans 10 #[.string s] (.tuple #[.string noB, .int .i64 30])) := by
  by_cases h : s.size ≤ 400
  · refine .inl ⟨h, fun w ht => (Code_calls s w ht).mono ?_⟩
    rintro e w' ⟨⟨_, he⟩ | ⟨h2, _⟩, hb⟩
    · exact ⟨he, hb⟩
    · omega
  · refine .inr ⟨by omega, fun w ht => (Code_calls s w ht).mono ?_⟩
    rintro e w' ⟨⟨h2, _⟩ | ⟨_, he⟩, hb⟩
    · omega
    · exact ⟨he, hb⟩
theorem ans_rcode (s : ByteArray) : (s.size ≤ 400 ∧ Ans 12 #[.string s] (.tuple #[.string (codeB s), .int .i64 0])) ∨ (400 < s.size ∧ Ans 12 #[.string s] (.tuple #[.string noB, .int .i64 30])) := by
  by_cases h : s.size ≤ 400
  · exact .inl ⟨h, fun w _ => rCode_yes s w h⟩
  · exact .inr ⟨by omega, fun w _ => rCode_no s w (by omega)⟩
theorem ans_pair (s : ByteArray) : (s.size ≤ 400 ∧ Ans 16 #[.string s] (.tuple #[.string (pairB s), .int .i64 0])) ∨ (400 < s.size ∧ Ans 16 #[.string s] (.tuple #[.string noB, .int .i64 30])) := by
  by_cases h : s.size ≤ 400
  · refine .inl ⟨h, fun w ht => (Pairs_calls s w ht).mono ?_⟩
    rintro e w' ⟨⟨_, he⟩ | ⟨h2, _⟩, hb⟩
    · exact ⟨he, hb⟩
    · omega
  · refine .inr ⟨by omega, fun w ht => (Pairs_calls s w ht).mono ?_⟩
    rintro e w' ⟨⟨h2, _⟩ | ⟨_, he⟩, hb⟩
    · omega
    · exact ⟨he, hb⟩
theorem ans_rpair (s : ByteArray) : (s.size ≤ 400 ∧ Ans 17 #[.string s] (.tuple #[.string (pairB s), .int .i64 0])) ∨ (400 < s.size ∧ Ans 17 #[.string s] (.tuple #[.string noB, .int .i64 30])) := by
  by_cases h : s.size ≤ 400
  · exact .inl ⟨h, fun w _ => rPairs_yes s w h⟩
  · exact .inr ⟨by omega, fun w _ => rPairs_no s w (by omega)⟩
theorem ans_of_dec {f : FuncId} {t : ByteArray} (h : ∀ w, Tb w → Calls Try.prog f #[.string t] w (DecPost t w)) : (isCode t.data.toList = true ∧ Ans f #[.string t] (.tuple #[.string (rawB t), .int .i64 0])) ∨ (isCode t.data.toList = false ∧ Ans f #[.string t] (.tuple #[.string noB, .int .i64 30])) := by
  cases hc : isCode t.data.toList with
  | true =>
    refine .inl ⟨rfl, fun w ht => (h w ht).mono ?_⟩
    rintro e w' ⟨⟨_, he⟩ | ⟨h2, _⟩, hb⟩
    · exact ⟨he, hb⟩
    · rw [hc] at h2; cases h2
  | false =>
    refine .inr ⟨rfl, fun w ht => (h w ht).mono ?_⟩
    rintro e w' ⟨⟨h2, _⟩ | ⟨_, he⟩, hb⟩
    · rw [hc] at h2; cases h2
    · exact ⟨he, hb⟩
theorem ans_of_unp {f : FuncId} {t : ByteArray} (h : ∀ w, Tb w → Calls Try.prog f #[.string t] w (UnpPost t w)) : (isPairs t.data.toList = true ∧ Ans f #[.string t] (.tuple #[.string (unpB t), .int .i64 0])) ∨ (isPairs t.data.toList = false ∧ Ans f #[.string t] (.tuple #[.string noB, .int .i64 30])) := by
  cases hc : isPairs t.data.toList with
  | true =>
    refine .inl ⟨rfl, fun w ht => (h w ht).mono ?_⟩
    rintro e w' ⟨⟨_, he⟩ | ⟨h2, _⟩, hb⟩
    · exact ⟨he, hb⟩
    · rw [hc] at h2; cases h2
  | false =>
    refine .inr ⟨rfl, fun w ht => (h w ht).mono ?_⟩
    rintro e w' ⟨⟨h2, _⟩ | ⟨_, he⟩, hb⟩
    · rw [hc] at h2; cases h2
    · exact ⟨he, hb⟩

theorem shown_code : Ans 10 #[.string ⟨#[255, 254]⟩] (.tuple #[.string ⟨#[95, 95, 52]⟩, .int .i64 0]) := by
  rcases ans_code ⟨#[255, 254]⟩ with ⟨_, h⟩ | ⟨h, _⟩
  · rw [show codeB ⟨#[255, 254]⟩ = ⟨#[95, 95, 52]⟩ from str_inj (by rw [codeB_data]; decide)] at h
    exact h
  · exact absurd h (by decide)
theorem shown_pair : Ans 16 #[.string ⟨#[255, 254]⟩] (.tuple #[.string ⟨#[102, 102, 102, 101]⟩, .int .i64 0]) := by
  rcases ans_pair ⟨#[255, 254]⟩ with ⟨_, h⟩ | ⟨h, _⟩
  · rw [show pairB ⟨#[255, 254]⟩ = ⟨#[102, 102, 102, 101]⟩ from str_inj (by rw [pairB_data]; decide)] at h
    exact h
  · exact absurd h (by decide)
theorem shown_dec : Ans 13 #[.string ⟨#[95, 95, 53]⟩] (.tuple #[.string noB, .int .i64 30]) := by
  rcases ans_of_dec (fun w ht => Decode_calls ⟨#[95, 95, 53]⟩ w ht) with ⟨h, _⟩ | ⟨_, h⟩
  · exact absurd h (by decide)
  · exact h

set_option maxRecDepth 100000 in
set_option maxHeartbeats 1000000 in
theorem shown_calls (w : World) (htab : Tb w) : Calls Try.prog 9 #[] w fun e w' => e = .returned (.bool true) ∧ Below w.heap.size w w' := by
  have HT := Lib.hid htab
  clear htab
  go_enter Try.func9, Try.ntmps9
  go_wp2_with (first
    | (go_at_call 10; refine (shown_code _ HT.out).mono ?_; rintro e w1 ⟨rfl, hb1⟩; have HB1 := Lib.hid hb1; have HT1 := Lib.hid (HT.out.below hb1); clear hb1)
    | (go_at_call 16; refine (shown_pair _ HT1.out).mono ?_; rintro e w2 ⟨rfl, hb2⟩; have HB2 := Lib.hid (HB1.out.trans (hb2.mono HB1.out.size)); have HT2 := Lib.hid (HT1.out.below hb2); clear hb2)
    | (go_at_call 13; refine (shown_dec _ HT2.out).mono ?_; rintro e w3 ⟨rfl, hb3⟩; have HB3 := Lib.hid (HB2.out.trans (hb3.mono HB2.out.size)); clear hb3))
  go_ret
  exact ⟨rfl, HB3.out⟩

def cutN (n : Nat) (s : ByteArray) : ByteArray := s.extract 0 (min s.size n)
theorem cutN_size (n : Nat) (s : ByteArray) : (cutN n s).size = min s.size n := by rw [cutN, ByteArray.size_extract]; omega
theorem cutN_long {n : Nat} {s : ByteArray} (h : n ≤ s.size) : cutN n s = s.extract 0 n := by rw [cutN, Nat.min_eq_right h]
theorem cutN_short {n : Nat} {s : ByteArray} (h : s.size ≤ n) : cutN n s = s := str_inj (by rw [cutN, Nat.min_eq_left h, Lib.extract_data, List.drop_zero, Nat.sub_zero]; exact List.take_of_length_le (by rw [size_data]; exact Nat.le_refl _))
def cutB (s : ByteArray) : ByteArray := cutN 410 s
set_option maxRecDepth 100000 in
set_option maxHeartbeats 1000000 in
theorem cut_calls (s : ByteArray) (w : World) : Calls Try.prog 11 #[.string s] w fun e w' => e = .returned (.string (cutB s)) ∧ w = w' := by
  go_enter Try.func11, Try.ntmps11
  go_wp2
  · go_ret
    exact ⟨by rw [cutB, cutN_long (by omega)]; rfl, rfl⟩
  · go_ret
    exact ⟨by rw [cutB, cutN_short (by omega)]; rfl, rfl⟩

set_option maxRecDepth 100000 in
set_option maxHeartbeats 1000000 in
theorem codes_walk (s t a c : ByteArray) (e g : Int) (w : World) (htab : Tb w)
    (h10 : Ans 10 #[.string (cutB s)] (.tuple #[.string a, .int .i64 e])) (h12 : Ans 12 #[.string (cutB s)] (.tuple #[.string a, .int .i64 e]))
    (h13 : Ans 13 #[.string (cutB t)] (.tuple #[.string c, .int .i64 g])) (h14 : Ans 14 #[.string (cutB t)] (.tuple #[.string c, .int .i64 g]))
    (h15 : (g = 0 ∧ Ans 15 #[.string (cutB t)] (.bool true)) ∨ (g = 30 ∧ Ans 15 #[.string (cutB t)] (.bool false))) :
    Calls Try.prog 3 #[.string s, .string t] w fun e w' => e = .returned (.bool true) ∧ Below w.heap.size w w' := by
  have HT := Lib.hid htab
  have H10 := Lib.hid h10
  have H12 := Lib.hid h12
  have H13 := Lib.hid h13
  have H14 := Lib.hid h14
  clear htab h10 h12 h13 h14
  rcases h15 with ⟨rfl, h15⟩ | ⟨rfl, h15⟩
  all_goals
    have H15 := Lib.hid h15
    clear h15
    go_enter Try.func3, Try.ntmps3
    go_wp2_with (first
      | (go_at_call 9; refine (shown_calls _ HT.out).mono ?_; rintro e w1 ⟨rfl, hb1⟩; have HB1 := Lib.hid hb1; have HT1 := Lib.hid (HT.out.below hb1); clear hb1)
      | (go_at_call 11; refine (cut_calls _ _).mono ?_; rintro e w2 ⟨rfl, rfl⟩)
      | (go_at_call 10; refine (H10.out _ HT1.out).mono ?_; rintro e' w2 ⟨rfl, hb2⟩; have HB2 := Lib.hid (HB1.out.trans (hb2.mono HB1.out.size)); have HT2 := Lib.hid (HT1.out.below hb2); clear hb2)
      | (go_at_call 12; refine (H12.out _ HT2.out).mono ?_; rintro e' w3 ⟨rfl, hb3⟩; have HB3 := Lib.hid (HB2.out.trans (hb3.mono HB2.out.size)); have HT3 := Lib.hid (HT2.out.below hb3); clear hb3)
      | (go_at_call 13; refine (H13.out _ HT3.out).mono ?_; rintro e' w4 ⟨rfl, hb4⟩; have HB4 := Lib.hid (HB3.out.trans (hb4.mono HB3.out.size)); have HT4 := Lib.hid (HT3.out.below hb4); clear hb4)
      | (go_at_call 14; refine (H14.out _ HT4.out).mono ?_; rintro e' w5 ⟨rfl, hb5⟩; have HB5 := Lib.hid (HB4.out.trans (hb5.mono HB4.out.size)); have HT5 := Lib.hid (HT4.out.below hb5); clear hb5)
      | (go_at_call 15; refine (H15.out _ HT5.out).mono ?_; rintro e' w6 ⟨rfl, hb6⟩; have HB6 := Lib.hid (HB5.out.trans (hb6.mono HB5.out.size)); clear hb6))
    go_ret
    exact ⟨rfl, HB6.out⟩

theorem isCode_ans {t : ByteArray} {b : Bool} (h : isCode t.data.toList = b) : Ans 15 #[.string t] (.bool b) := fun w ht => by
  subst h
  exact IsCode_calls t w ht

theorem codes_calls (s t : ByteArray) (w : World) (htab : Tb w) : Calls Try.prog 3 #[.string s, .string t] w fun e w' => e = .returned (.bool true) ∧ Below w.heap.size w w' := by
  have hC : ∃ a : ByteArray, ∃ e : Int, Ans 10 #[.string (cutB s)] (.tuple #[.string a, .int .i64 e]) ∧ Ans 12 #[.string (cutB s)] (.tuple #[.string a, .int .i64 e]) := by
    rcases ans_code (cutB s) with ⟨h1, a1⟩ | ⟨h1, a1⟩ <;> rcases ans_rcode (cutB s) with ⟨h2, a2⟩ | ⟨h2, a2⟩
    · exact ⟨_, _, a1, a2⟩
    · omega
    · omega
    · exact ⟨_, _, a1, a2⟩
  obtain ⟨a, e, c1, c2⟩ := hC
  rcases ans_of_dec (fun w ht => Decode_calls (cutB t) w ht) with ⟨h1, a1⟩ | ⟨h1, a1⟩ <;> rcases ans_of_dec (f := 14) (fun w _ => rDecode_calls (cutB t) w) with ⟨h2, a2⟩ | ⟨h2, a2⟩
  · exact codes_walk s t a _ e 0 w htab c1 c2 a1 a2 (.inl ⟨rfl, isCode_ans h1⟩)
  · rw [h1] at h2; cases h2
  · rw [h1] at h2; cases h2
  · exact codes_walk s t a _ e 30 w htab c1 c2 a1 a2 (.inr ⟨rfl, isCode_ans h1⟩)

set_option maxRecDepth 100000 in
set_option maxHeartbeats 1000000 in
theorem pairs_walk (s t a c : ByteArray) (e g : Int) (w : World) (htab : Tb w)
    (h10 : Ans 16 #[.string (cutB s)] (.tuple #[.string a, .int .i64 e])) (h12 : Ans 17 #[.string (cutB s)] (.tuple #[.string a, .int .i64 e]))
    (h13 : Ans 18 #[.string (cutB t)] (.tuple #[.string c, .int .i64 g])) (h14 : Ans 19 #[.string (cutB t)] (.tuple #[.string c, .int .i64 g])) :
    Calls Try.prog 4 #[.string s, .string t] w fun e w' => e = .returned (.bool true) ∧ Below w.heap.size w w' := by
  have HT := Lib.hid htab
  have H10 := Lib.hid h10
  have H12 := Lib.hid h12
  have H13 := Lib.hid h13
  have H14 := Lib.hid h14
  clear htab h10 h12 h13 h14
  go_enter Try.func4, Try.ntmps4
  go_wp2_with (first
    | (go_at_call 9; refine (shown_calls _ HT.out).mono ?_; rintro e w1 ⟨rfl, hb1⟩; have HB1 := Lib.hid hb1; have HT1 := Lib.hid (HT.out.below hb1); clear hb1)
    | (go_at_call 11; refine (cut_calls _ _).mono ?_; rintro e w2 ⟨rfl, rfl⟩)
    | (go_at_call 16; refine (H10.out _ HT1.out).mono ?_; rintro e' w2 ⟨rfl, hb2⟩; have HB2 := Lib.hid (HB1.out.trans (hb2.mono HB1.out.size)); have HT2 := Lib.hid (HT1.out.below hb2); clear hb2)
    | (go_at_call 17; refine (H12.out _ HT2.out).mono ?_; rintro e' w3 ⟨rfl, hb3⟩; have HB3 := Lib.hid (HB2.out.trans (hb3.mono HB2.out.size)); have HT3 := Lib.hid (HT2.out.below hb3); clear hb3)
    | (go_at_call 18; refine (H13.out _ HT3.out).mono ?_; rintro e' w4 ⟨rfl, hb4⟩; have HB4 := Lib.hid (HB3.out.trans (hb4.mono HB3.out.size)); have HT4 := Lib.hid (HT3.out.below hb4); clear hb4)
    | (go_at_call 19; refine (H14.out _ HT4.out).mono ?_; rintro e' w5 ⟨rfl, hb5⟩; have HB5 := Lib.hid (HB4.out.trans (hb5.mono HB4.out.size)); clear hb5))
  go_ret
  exact ⟨rfl, HB5.out⟩

theorem pairs_calls (s t : ByteArray) (w : World) (htab : Tb w) : Calls Try.prog 4 #[.string s, .string t] w fun e w' => e = .returned (.bool true) ∧ Below w.heap.size w w' := by
  have hC : ∃ a : ByteArray, ∃ e : Int, Ans 16 #[.string (cutB s)] (.tuple #[.string a, .int .i64 e]) ∧ Ans 17 #[.string (cutB s)] (.tuple #[.string a, .int .i64 e]) := by
    rcases ans_pair (cutB s) with ⟨h1, a1⟩ | ⟨h1, a1⟩ <;> rcases ans_rpair (cutB s) with ⟨h2, a2⟩ | ⟨h2, a2⟩
    · exact ⟨_, _, a1, a2⟩
    · omega
    · omega
    · exact ⟨_, _, a1, a2⟩
  obtain ⟨a, e, c1, c2⟩ := hC
  rcases ans_of_unp (fun w ht => Unpair_calls (cutB t) w ht) with ⟨h1, a1⟩ | ⟨h1, a1⟩ <;> rcases ans_of_unp (f := 19) (fun w _ => rUnpair_calls (cutB t) w) with ⟨h2, a2⟩ | ⟨h2, a2⟩
  · exact pairs_walk s t a _ e 0 w htab c1 c2 a1 a2
  · rw [h1] at h2; cases h2
  · rw [h1] at h2; cases h2
  · exact pairs_walk s t a _ e 30 w htab c1 c2 a1 a2
end Go.Proofs.Ytfmhpeeecejpbaa
