/- The walks of the document's own answers: Trim, digit, ends. -/
import Derived.Test.YtkdbiilpnijocaaDoorRf1
namespace Go.Proofs.YtkdbiilpnijocaaDoor
open Go.RowKit
open Go.Lib (decDigits nDigits nDigits_small lt_pow_nDigits decDigits_length)

/-- Digits without a nought ahead are their number's numeral, however many. -/
theorem dec_canon {l : List UInt8} (h1 : l ≠ []) (h3 : l.head? ≠ some 48 ∨ l.length = 1) (h4 : l.all isD = true) : decDigits (dv l) = l := by
  have hl : nDigits (dv l) = l.length := by
    cases l with
    | nil => exact absurd rfl h1
    | cons c m =>
      have h5 := (List.all_eq_true.1 h4) c (by simp)
      rw [isD_iff] at h5
      rcases h3 with h3 | h3
      · have hc : 49 ≤ c.toNat := by
          have : c.toNat ≠ 48 := by
            intro e
            apply h3
            have : c = 48 := UInt8.toNat.inj e
            rw [this]; rfl
          omega
        have h6 := dv_ge c m hc
        have h7 := nDigits_le (k := m.length + 1) (by omega) (dv_lt (c :: m) h4)
        have h8 := lt_pow_nDigits (dv (c :: m))
        have h9 : m.length < nDigits (dv (c :: m)) := by
          rcases Nat.lt_or_ge m.length (nDigits (dv (c :: m))) with h | h
          · exact h
          · have := Nat.pow_le_pow_right (show 0 < 10 by omega) h
            omega
        rw [List.length_cons]; omega
      · have : m = [] := List.eq_nil_of_length_eq_zero (by simpa using h3)
        subst this
        exact nDigits_small (by simp [dv]; omega)
  rw [dec_digs, hl, digs_dv l h4]

theorem dv_zero_cons (l : List UInt8) : dv (48 :: l) = dv l := by simp [dv]

theorem drop_one (s : ByteArray) : (s.extract 1 s.size).data.toList = s.data.toList.drop 1 := by
  have h : s.size = s.data.toList.length := Lib.size_eq s
  rw [ByteArray.data_extract, Array.toList_extract, List.extract_eq_take_drop, List.take_of_length_le (by rw [List.length_drop]; omega)]

/-- s: digits, one at least. -/
def Digs (s : ByteArray) : Prop := s.data.toList ≠ [] ∧ s.data.toList.all isD = true

theorem byte_head {t : ByteArray} (hs : t.data.toList ≠ []) : ∃ c l, t.data.toList = c :: l ∧ byteAt t 0 = c := by
  cases e : t.data.toList with
  | nil => exact absurd e hs
  | cons c l => exact ⟨c, l, rfl, by rw [byteAt_list, e]; rfl⟩

theorem trim_step {t : ByteArray} (hd : Digs t) (h1 : 1 < t.size) (hb : (byteAt t 0).toNat = 48) : Digs (t.extract 1 t.size) ∧ dv (t.extract 1 t.size).data.toList = dv t.data.toList ∧ (t.extract 1 t.size).size + 1 = t.size := by
  obtain ⟨c, l, e, hc⟩ := byte_head hd.1
  have h3 := Lib.size_eq t
  have h4 : c = 48 := UInt8.toNat.inj (by rw [← hc, hb]; rfl)
  have hall := hd.2
  rw [e, List.all_cons, Bool.and_eq_true] at hall
  rw [e, List.length_cons] at h3
  subst h4
  rw [Digs, drop_one, e, List.drop_one, List.tail_cons, ByteArray.size_extract]
  refine ⟨⟨?_, hall.2⟩, (dv_zero_cons l).symm, by omega⟩
  rintro rfl
  simp only [List.length_nil] at h3
  omega

theorem trimmed {t : ByteArray} (hd : Digs t) (h : ¬ (1 < t.size ∧ (byteAt t 0).toNat = 48)) : decB (dv t.data.toList) = t := by
  obtain ⟨c, l, e, hc⟩ := byte_head hd.1
  have h3 := Lib.size_eq t
  refine str_inj ?_
  rw [decB_data]
  refine dec_canon hd.1 ?_ hd.2
  by_cases h1 : 1 < t.size
  · left
    rw [e, List.head?_cons]
    intro h4
    injection h4 with h4
    exact h ⟨h1, by rw [hc, h4]; rfl⟩
  · right
    rw [e, List.length_cons] at h3 ⊢
    omega

set_option maxRecDepth 100000 in
set_option maxHeartbeats 1000000 in
theorem rTrim_calls (s : ByteArray) (w : World) (hs : Digs s) (hmax : s.size ≤ 100000) : Calls Tryd.prog 44 #[.string s] w fun e w' => e = .returned (.string (decB (dv s.data.toList))) ∧ w' = w := by
  have HS := Lib.hid hs
  clear hs
  go_enter Tryd.func44, Tryd.ntmps44
  go_wp2
  go_loop [0] (fun v => ∃ t : ByteArray, v = .string t ∧ Digs t ∧ dv t.data.toList = dv s.data.toList ∧ t.size ≤ 100000) (fun v => match v with | .string t => t.size | _ => 0)
  case atStart => exact ⟨s, rfl, HS.out, rfl, hmax⟩
  case round =>
    obtain ⟨t, rfl, hd, hv, hm⟩ := hrel
    have HD := Lib.hid hd
    have HV := Lib.hid hv
    have HSZ := Lib.hid (Lib.size_eq t)
    have h0 : 0 < t.size := by
      have hsz := HSZ.out
      cases e : t.data.toList with
      | nil => exact absurd e hd.1
      | cons c l => rw [e, List.length_cons] at hsz; omega
    clear hd hv
    by_cases h1 : 1 < t.size
    · by_cases hb : (byteAt t 0).toNat = 48
      · have hb' : (((t[0]'h0).toNat : Int) == 48) = true := by rw [← byteAt_eq t 0 h0, hb]; rfl
        go_wp2
        obtain ⟨s1, s2, s3⟩ := trim_step HD.out h1 hb
        exact ⟨⟨_, rfl, s1, s2.trans HV.out, by omega⟩, by simp only; omega⟩
      · have hb' : (((t[0]'h0).toNat : Int) == 48) = false := by rw [← byteAt_eq t 0 h0]; exact beq_eq_false_iff_ne.2 (by omega)
        go_wp2
        go_ret
        exact ⟨by rw [← HV.out, trimmed HD.out (fun h => hb h.2)]; rfl, rfl⟩
    · go_wp2
      go_ret
      exact ⟨by rw [← HV.out, trimmed HD.out (fun h => h1 h.1)]; rfl, rfl⟩

/-- What digit tells of a row of digits: that at a place from the end on. -/
def dgAt (s : ByteArray) (k : Nat) : Nat := if k < s.size then (byteAt s (s.size - 1 - k)).toNat - 48 else 0

set_option maxRecDepth 100000 in
set_option maxHeartbeats 1000000 in
theorem rDigit_calls (s : ByteArray) (k : Nat) (w : World) (hs : s.data.toList.all isD = true) (hmax : s.size ≤ 100000) (hk : k ≤ 100000) : Calls Tryd.prog 43 #[.string s, .int .i64 (k : Int)] w fun e w' => e = .returned (.int .i64 (dgAt s k : Nat)) ∧ w' = w := by
  by_cases h : k < s.size
  · have hlt : s.size - 1 - k < s.size := by omega
    have hi : (s.size : Int) - 1 - (k : Int) = ((s.size - 1 - k : Nat) : Int) := by omega
    have hd : isD (byteAt s (s.size - 1 - k)) = true := by
      rw [byteAt_list]
      have hl : s.size - 1 - k < s.data.toList.length := by rw [← Lib.size_eq]; exact hlt
      rw [List.getElem?_eq_getElem hl]
      exact (List.all_eq_true.1 hs) _ (List.getElem_mem hl)
    have hr := (isD_iff _).1 hd
    have hbe : (s[s.size - 1 - k]'hlt).toNat = (byteAt s (s.size - 1 - k)).toNat := by rw [byteAt_eq s _ hlt]
    have HE : Hid (dgAt s k = (byteAt s (s.size - 1 - k)).toNat - 48) := Lib.hid (by rw [dgAt, if_pos h])
    clear hs hd
    go_enter Tryd.func43, Tryd.ntmps43
    go_wp2
    go_ret
    exact ⟨by rw [HE.out, show (((byteAt s (s.size - 1 - k)).toNat - 48 : Nat) : Int) = ((byteAt s (s.size - 1 - k)).toNat : Int) - 48 from by omega]; rfl, rfl⟩
  · have HE : Hid (dgAt s k = 0) := Lib.hid (by rw [dgAt, if_neg h])
    go_enter Tryd.func43, Tryd.ntmps43
    go_wp2
    go_ret
    exact ⟨by rw [HE.out]; rfl, rfl⟩

set_option maxRecDepth 100000 in
set_option maxHeartbeats 1000000 in
theorem rEnds_calls (s : ByteArray) (w : World) (hs : Digs s) (hmax : s.size ≤ 100000) : Calls Tryd.prog 40 #[.string s] w (TellPost (dv s.data.toList) w) := by
  have HS := Lib.hid hs
  clear hs
  have hsz : (decB (dv s.data.toList)).size = nDigits (dv s.data.toList) := by rw [Lib.size_eq, decB_data, decDigits_length]
  by_cases h : nDigits (dv s.data.toList) ≤ 400
  · have H1 := Lib.hid (outS_lt h)
    have H2 := Lib.hid (outE_lt h)
    go_enter Tryd.func40, Tryd.ntmps40
    go_wp2_with (go_at_call 44; refine (rTrim_calls s _ HS.out hmax).mono ?_; rintro e w1 ⟨rfl, rfl⟩)
    go_ret2
    exact ⟨by rw [H1.out, H2.out]; rfl, Below.refl _ _⟩
  · have H1 := Lib.hid (outS_ge h)
    have H2 := Lib.hid (outE_ge h)
    go_enter Tryd.func40, Tryd.ntmps40
    go_wp2_with (go_at_call 44; refine (rTrim_calls s _ HS.out hmax).mono ?_; rintro e w1 ⟨rfl, rfl⟩)
    go_ret2
    exact ⟨by rw [H1.out, H2.out]; rfl, Below.refl _ _⟩
end Go.Proofs.YtkdbiilpnijocaaDoor
