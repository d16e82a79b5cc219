/- The walk of NatBack. -/
import Derived.Test.YtkdbiilpnijocaaDoorRests
import Derived.Test.YtkdbiilpnijocaaDoorOfB
namespace Go.Proofs.YtkdbiilpnijocaaDoor
open Go.RowKit
open Go.Lib (decDigits)

theorem bv_byteL (n : Nat) : bv (byteL n).reverse = n := by
  induction n using Nat.strongRecOn with
  | _ n ih =>
    by_cases h : n = 0
    · subst h; rw [byteL_zero]; rfl
    · rw [byteL_pos (by omega), List.reverse_cons, bv_snoc, ih (n / 256) (by omega), UInt8.toNat_ofNat', Nat.mod_eq_of_lt (show n % 256 < 2 ^ 8 by omega)]
      omega

theorem head_byteL {n : Nat} (h : 0 < n) : ∃ c, (byteL n).reverse.head? = some c ∧ c.toNat ≠ 0 := by
  induction n using Nat.strongRecOn with
  | _ n ih =>
    rw [byteL_pos h, List.reverse_cons, List.head?_append]
    by_cases h1 : n / 256 = 0
    · rw [h1, byteL_zero]
      refine ⟨_, rfl, ?_⟩
      rw [UInt8.toNat_ofNat', Nat.mod_eq_of_lt (show n % 256 < 2 ^ 8 by omega)]
      omega
    · obtain ⟨c, hc, h2⟩ := ih (n / 256) (by omega) (by omega)
      exact ⟨c, by rw [hc]; rfl, h2⟩

theorem byteL_bv (l : List UInt8) (h : ∀ c, l.head? = some c → c.toNat ≠ 0) : (byteL (bv l)).reverse = l ∧ (l ≠ [] → 0 < bv l) := by
  induction hn : l.length generalizing l with
  | zero => rw [List.eq_nil_of_length_eq_zero hn]; exact ⟨by rw [show bv [] = 0 from rfl, byteL_zero]; rfl, fun e => absurd rfl e⟩
  | succ k ih =>
    obtain ⟨m, c, rfl⟩ : ∃ m c, l = m ++ [c] := ⟨l.dropLast, l.getLast (by intro e; subst e; simp at hn), (List.dropLast_concat_getLast _).symm⟩
    rw [List.length_append, List.length_singleton] at hn
    have hc : c.toNat < 256 := c.toNat_lt
    have hpos : 0 < bv (m ++ [c]) := by
      rw [bv_snoc]
      cases m with
      | nil => have := h c (by simp); omega
      | cons d m =>
        have := (ih (d :: m) (fun x hx => h x (by simpa using hx)) (by omega)).2 (by simp)
        omega
    refine ⟨?_, fun _ => hpos⟩
    have hm : (byteL (bv m)).reverse = m := by
      cases m with
      | nil => rw [show bv [] = 0 from rfl, byteL_zero]; rfl
      | cons d m => exact (ih (d :: m) (fun x hx => h x (by simpa using hx)) (by omega)).1
    rw [byteL_pos hpos, List.reverse_cons, bv_snoc, show (bv m * 256 + c.toNat) / 256 = bv m from by omega, show (bv m * 256 + c.toNat) % 256 = c.toNat from by omega, hm]
    simp

def bytB (n : Nat) : ByteArray := ⟨(byteL n).reverse.toArray⟩
theorem bytB_data (n : Nat) : (bytB n).data.toList = (byteL n).reverse := by simp [bytB]

theorem Bytes_ans (A : ByteArray) (h : isNat A.data.toList = true) : Ans 27 #[.string A] (.tuple #[.string (bytB (dv A.data.toList)), .int .i64 0]) := fun w _ => Bytes_yes A w h
theorem Bytes_nil (A : ByteArray) (h : isNat A.data.toList = false) : Ans 27 #[.string A] (.tuple #[.string noB, .int .i64 10]) := fun w _ => Bytes_no A w h

theorem head_byteAt (s : ByteArray) (c : UInt8) (h : s.data.toList.head? = some c) : byteAt s 0 = c := by
  rw [byteAt_list, ← List.head?_eq_getElem?, h]; rfl

theorem OfBytes_tell (s : ByteArray) (hmax : s.size ≤ 100000) (h : ∀ c, s.data.toList.head? = some c → c.toNat ≠ 0) (w : World) (ht : Tab w) : Calls Tryd.prog 29 #[.string s] w (TellPost (bv s.data.toList) w) := by
  cases e : s.data.toList with
  | nil =>
    obtain rfl : s = ⟨#[]⟩ := str_inj (by rw [e])
    exact OfBytes_empty w ht
  | cons c l =>
    have h0 : 0 < s.size := by
      have := congrArg List.length e
      rw [Array.length_toList, List.length_cons] at this
      have h1 : s.data.size = s.size := rfl
      omega
    have hc := head_byteAt s c (by rw [e]; rfl)
    rw [← e]
    exact OfBytes_some s w h0 hmax (by rw [hc]; exact h c (by rw [e]; rfl)) ht

theorem OfBytes_zero (s : ByteArray) (c : UInt8) (h : s.data.toList.head? = some c) (hz : c.toNat = 0) : Ans 29 #[.string s] (.tuple #[.string noB, .int .i64 10]) := fun w _ => by
  have h0 : 0 < s.size := by
    cases e : s.data.toList with
    | nil => rw [e] at h; cases h
    | cons d l =>
      have := congrArg List.length e
      rw [Array.length_toList, List.length_cons] at this
      have h1 : s.data.size = s.size := rfl
      omega
  exact OfBytes_no s w h0 (by rw [head_byteAt s c h]; exact hz)

theorem back_bytes (A : ByteArray) : ∃ c d : ByteArray, ∃ e f : Int, Ans 27 #[.string A] (.tuple #[.string c, .int .i64 e]) ∧ Ans 29 #[.string c] (.tuple #[.string d, .int .i64 f]) ∧ (e ≠ 0 ∨ (e = 0 ∧ f = 0 ∧ d = A)) := by
  cases ha : isNat A.data.toList with
  | false =>
    rcases ans_tell (fun w ht => OfBytes_tell noB (by decide) (fun c hc => by cases hc) w ht) with ⟨_, h4⟩ | ⟨_, h4⟩
    · exact ⟨noB, _, 10, _, Bytes_nil A ha, h4, .inl (by decide)⟩
    · exact ⟨noB, _, 10, _, Bytes_nil A ha, h4, .inl (by decide)⟩
  | true =>
    have hl := dv_lim ha
    have hlen : (byteL (dv A.data.toList)).length ≤ 1000 := by
      have h1 := (isNat_parts ha).2.1
      have h2 := byteL_len (Nat.lt_of_lt_of_le (dv_lt A.data.toList (isNat_parts ha).2.2.2) (Nat.pow_le_pow_left (show 10 ≤ 256 by omega) _))
      omega
    have hs : (bytB (dv A.data.toList)).size ≤ 100000 := by
      have : (bytB (dv A.data.toList)).size = (byteL (dv A.data.toList)).length := by
        show (byteL (dv A.data.toList)).reverse.toArray.size = _
        simp
      omega
    have hh : ∀ c, (bytB (dv A.data.toList)).data.toList.head? = some c → c.toNat ≠ 0 := by
      intro c hc
      rw [bytB_data] at hc
      by_cases h0 : dv A.data.toList = 0
      · rw [h0, byteL_zero] at hc; cases hc
      · obtain ⟨d, hd, hd2⟩ := head_byteL (n := dv A.data.toList) (by omega)
        rw [hd] at hc; cases hc; exact hd2
    rcases ans_tell (fun w ht => OfBytes_tell _ hs hh w ht) with ⟨_, h4⟩ | ⟨h3, h4⟩
    · rw [bytB_data, bv_byteL, decB_dv ha] at h4
      exact ⟨_, _, 0, 0, Bytes_ans A ha, h4, .inr ⟨rfl, rfl, rfl⟩⟩
    · rw [bytB_data, bv_byteL] at h3
      omega

theorem back_of (B : ByteArray) (hB : B.size ≤ 1000) : ∃ g i : ByteArray, ∃ h j : Int, Ans 29 #[.string B] (.tuple #[.string g, .int .i64 h]) ∧ Ans 27 #[.string g] (.tuple #[.string i, .int .i64 j]) ∧ (h ≠ 0 ∨ (h = 0 ∧ j = 0 ∧ i = B)) := by
  by_cases hz : ∃ c, B.data.toList.head? = some c ∧ c.toNat = 0
  · obtain ⟨c, hc, h0⟩ := hz
    exact ⟨noB, noB, 10, 10, OfBytes_zero B c hc h0, Bytes_nil _ isNat_noB, .inl (by decide)⟩
  · have hh : ∀ c, B.data.toList.head? = some c → c.toNat ≠ 0 := fun c hc h0 => hz ⟨c, hc, h0⟩
    rcases ans_tell (fun w ht => OfBytes_tell B (by omega) hh w ht) with ⟨h3, h4⟩ | ⟨h3, h4⟩
    · have h5 := Bytes_ans _ (isNat_decB h3)
      rw [dv_decB] at h5
      exact ⟨_, _, 0, 0, h4, h5, .inr ⟨rfl, rfl, str_inj (by rw [bytB_data, (byteL_bv _ hh).1])⟩⟩
    · exact ⟨noB, noB, 11, 10, h4, Bytes_nil _ isNat_noB, .inl (by decide)⟩

theorem To_ans (n : Nat) (hn : n < 18446744073709551616) : Ans 31 #[.string (decB n)] (.tuple #[.int .u64 (n : Int), .bool true]) := fun w _ => by
  have hnat := isNat_decB (small_lim hn)
  have hs : (decB n).size ≤ 1000 := by
    have h1 := (isNat_parts hnat).2.1
    have h2 : (decB n).data.toList.length = (decB n).size := by rw [Array.length_toList]; rfl
    omega
  have h := To_yes (decB n) w hnat hs (by rw [dv_decB]; exact hn)
  rw [dv_decB] at h
  exact h

set_option maxRecDepth 100000 in
set_option maxHeartbeats 1000000 in
theorem back_walk (a b B c d g i : ByteArray) (hB : cutN 100 b = B) (e f h j : Int) (n : Nat) (hn : n < 18446744073709551616) (w : World) (htab : Tab w)
    (h1 : Ans 27 #[.string (cutB a)] (.tuple #[.string c, .int .i64 e])) (h2 : Ans 29 #[.string c] (.tuple #[.string d, .int .i64 f]))
    (h3 : Ans 29 #[.string B] (.tuple #[.string g, .int .i64 h])) (h4 : Ans 27 #[.string g] (.tuple #[.string i, .int .i64 j]))
    (h5 : e ≠ 0 ∨ (e = 0 ∧ f = 0 ∧ d = cutB a)) (h6 : h ≠ 0 ∨ (h = 0 ∧ j = 0 ∧ i = B)) :
    Calls Tryd.prog 7 #[.string a, .string b, .int .u64 (n : Int)] w fun e w' => e = .returned (.bool true) ∧ Below w.heap.size w w' := by
  have HT := Lib.hid htab
  have H1 := Lib.hid h1
  have H2 := Lib.hid h2
  have H3 := Lib.hid h3
  have H4 := Lib.hid h4
  have H5 := Lib.hid h5
  have H6 := Lib.hid h6
  have hcut : b.extract 0 (min (b.size : Int) 100).toNat = B := (cutN_eq 100 b).trans hB
  clear htab h1 h2 h3 h4 h5 h6 hB
  go_enter Tryd.func7, Tryd.ntmps7
  go_wp2_with (first
    | (go_at_call 11; refine (shown_calls _ HT.out).mono ?_; rintro e w1 ⟨rfl, hb1⟩; have HB1 := Lib.hid hb1; have HT1 := Lib.hid (HT.out.below hb1); clear hb1)
    | (go_at_call 12; refine (cut_calls _ _).mono ?_; rintro e w2 ⟨rfl, rfl⟩))
  generalize cutB a = A at *
  refine (H1.out _ HT1.out).mono ?_
  rintro e' w2 ⟨rfl, hb2⟩
  have HB2 := Lib.hid (HB1.out.trans (hb2.mono HB1.out.size)); have HT2 := Lib.hid (HT1.out.below hb2); clear hb2
  go_wp2_with fail
  refine (H2.out _ HT2.out).mono ?_
  rintro e' w3 ⟨rfl, hb3⟩
  have HB3 := Lib.hid (HB2.out.trans (hb3.mono HB2.out.size)); have HT3 := Lib.hid (HT2.out.below hb3); clear hb3
  go_wp2_with fail
  refine (H3.out _ HT3.out).mono ?_
  rintro e' w4 ⟨rfl, hb4⟩
  have HB4 := Lib.hid (HB3.out.trans (hb4.mono HB3.out.size)); have HT4 := Lib.hid (HT3.out.below hb4); clear hb4
  go_wp2_with fail
  refine (H4.out _ HT4.out).mono ?_
  rintro e' w5 ⟨rfl, hb5⟩
  have HB5 := Lib.hid (HB4.out.trans (hb5.mono HB4.out.size)); have HT5 := Lib.hid (HT4.out.below hb5); clear hb5
  go_wp2_with (first
    | (go_at_call 33; refine (Of_ans n hn _ HT5.out).mono ?_; rintro e' w6 ⟨rfl, hb6⟩; have HB6 := Lib.hid (HB5.out.trans (hb6.mono HB5.out.size)); have HT6 := Lib.hid (HT5.out.below hb6); clear hb6))
  refine (To_ans n hn _ HT6.out).mono ?_
  rintro e' w7 ⟨rfl, hb7⟩
  have HB7 := Lib.hid (HB6.out.trans (hb7.mono HB6.out.size)); clear hb7
  rcases H5.out with h1 | ⟨rfl, rfl, rfl⟩ <;> rcases H6.out with h2 | ⟨rfl, rfl, rfl⟩
  all_goals clear H5 H6
  all_goals go_wp2
  all_goals go_ret
  all_goals exact ⟨rfl, HB7.out⟩

theorem cutN_size (n : Nat) (s : ByteArray) : (cutN n s).size ≤ n := by
  rw [cutN, ByteArray.size_extract]; omega

theorem back_calls (a b : ByteArray) (n : Nat) (hn : n < 18446744073709551616) (w : World) (htab : Tab w) :
    Calls Tryd.prog 7 #[.string a, .string b, .int .u64 (n : Int)] w fun e w' => e = .returned (.bool true) ∧ Below w.heap.size w w' := by
  obtain ⟨c, d, e, f, h1, h2, h3⟩ := back_bytes (cutB a)
  obtain ⟨g, i, h, j, h4, h5, h6⟩ := back_of (cutN 100 b) (by have := cutN_size 100 b; omega)
  exact back_walk a b _ c d g i rfl e f h j n hn w htab h1 h2 h4 h5 h3 h6
end Go.Proofs.YtkdbiilpnijocaaDoor
