/- Plain mathematics: what is made is read again; what is read, and is the shortest, is what is made. -/
import Derived.Test.YtgaaiiacdeejfaaDoorR3
namespace Go.Proofs.YtgaaiiacdeejfaaDoor
open Go.RowKit

theorem ext_list (s : ByteArray) (i j : Nat) : (s.extract i j).data.toList = (s.data.toList.drop i).take (j - i) := Lib.extract_data s i j
theorem app_list (a b : ByteArray) : (a ++ b).data.toList = a.data.toList ++ b.data.toList := by rw [ByteArray.data_append, Array.toList_append]
theorem headB_list (m a : Nat) : (headB m a).data.toList = headL m a := rfl
theorem first_nat {m k : Nat} (hm : m < 8) (hk : k < 32) : (UInt8.ofNat (32 * m + k)).toNat = 32 * m + k := by
  rw [UInt8.toNat_ofNat', Nat.mod_eq_of_lt (by omega)]
theorem hext_mono {a b : Nat} (h : a ≤ b) : hext a ≤ hext b := by
  unfold hext
  repeat' split
  all_goals omega
theorem lt_pow_hext {a : Nat} (ha : a < 18446744073709551616) (h24 : ¬ a < 24) : a < 256 ^ hext a := by
  have e : a < 256 ∧ hext a = 1 ∨ a < 65536 ∧ hext a = 2 ∨ a < 4294967296 ∧ hext a = 4 ∨ hext a = 8 := by
    unfold hext
    repeat' split
    all_goals omega
  rcases e with ⟨h, e⟩ | ⟨h, e⟩ | ⟨h, e⟩ | e <;> rw [e] <;> omega
theorem hext_le_of {A n : Nat} (hn : n = 1 ∨ n = 2 ∨ n = 4 ∨ n = 8) (h : A < 256 ^ n) : hext A ≤ n := by
  rcases hn with rfl | rfl | rfl | rfl
  all_goals
    unfold hext
    repeat' split
    all_goals omega
theorem hinfo_ge {a : Nat} (h : ¬ a < 24) : ¬ hinfo a < 24 := by
  unfold hinfo
  rw [if_neg h]
  repeat' split
  all_goals omega

/-- What a text begins with, whose first byte is c. -/
theorem readT_cons (s : ByteArray) (c : UInt8) (l : List UInt8) (h : s.data.toList = c :: l) : readT s = match nby (c.toNat % 32) with
    | none => (0, 0, 0, s, 101)
    | some n => if l.length < n then (0, 0, 0, s, 100) else (c.toNat / 32, c.toNat % 32, argV (c.toNat % 32) (l.take n), s.extract (1 + n) s.size, 0) := by
  have hs : s.size = l.length + 1 := by rw [← size_data, h, List.length_cons]
  have hb : byteAt s 0 = c := by rw [byteAt_list, h]; rfl
  unfold readT
  rw [if_neg (by omega), hb]
  cases hn : nby (c.toNat % 32) with
  | none => rfl
  | some n =>
    show (if s.size < 1 + n then _ else _) = (if l.length < n then _ else _)
    by_cases hl : l.length < n
    · rw [if_pos hl, if_pos (by omega)]
    · rw [if_neg hl, if_neg (by omega), ext_list, h, List.drop_one, List.tail_cons, Nat.add_sub_cancel_left]
theorem argV_head {a : Nat} (ha : a < 18446744073709551616) : argV (hinfo a) (bigL (hext a) a) = a := by
  by_cases h : a < 24
  · have e : hinfo a = a := by rw [hinfo, if_pos h]
    rw [argV, e, if_pos h]
  · rw [argV, if_neg (hinfo_ge h), val_big, Nat.mod_eq_of_lt (lt_pow_hext ha h)]
theorem readT_app {m a : Nat} (hm : m < 8) (ha : a < 18446744073709551616) (t : ByteArray) : readT (headB m a ++ t) = (m, hinfo a, a, t, 0) := by
  have hi := hinfo_le a
  rw [readT_cons _ (UInt8.ofNat (32 * m + hinfo a)) (bigL (hext a) a ++ t.data.toList) (by rw [app_list, headB_list, headL]; rfl), first_nat hm (by omega),
    show (32 * m + hinfo a) % 32 = hinfo a by omega, nby_info, show (32 * m + hinfo a) / 32 = m by omega]
  show (if _ < _ then _ else _) = _
  rw [if_neg (by rw [List.length_append, bigL_len]; omega)]
  have e1 : (bigL (hext a) a ++ t.data.toList).take (hext a) = bigL (hext a) a := by
    conv => lhs; arg 1; rw [← bigL_len (hext a) a]
    exact List.take_left
  have e2 : (headB m a ++ t).extract (1 + hext a) (headB m a ++ t).size = t := str_inj (by
    rw [ext_list, app_list, headB_list, ← headL_len m a, List.drop_left, List.take_of_length_le (by rw [ByteArray.size_append, headB_size, headL_len, size_data]; omega)])
  rw [e1, e2, argV_head ha]
theorem readT_cut {m a q : Nat} (hm : m < 8) (hq : q < 1 + hext a) : readT ((headB m a).extract 0 q) = (0, 0, 0, (headB m a).extract 0 q, 100) := by
  have hi := hinfo_le a
  cases q with
  | zero => rw [readT, if_pos (by rw [ByteArray.size_extract]; omega)]
  | succ q =>
    rw [readT_cons _ (UInt8.ofNat (32 * m + hinfo a)) ((bigL (hext a) a).take q) (by rw [ext_list, headB_list, headL]; rfl), first_nat hm (by omega),
      show (32 * m + hinfo a) % 32 = hinfo a by omega, nby_info]
    show (if _ < _ then _ else _) = _
    rw [if_pos (by rw [List.length_take, bigL_len]; omega)]
theorem readT_open {m : Nat} (hm : m < 8) (t : ByteArray) : readT (⟨#[UInt8.ofNat (32 * m + 31)]⟩ ++ t) = (m, 31, 0, t, 0) := by
  rw [readT_cons _ (UInt8.ofNat (32 * m + 31)) t.data.toList (by rw [app_list]; rfl), first_nat hm (by omega), show (32 * m + 31) % 32 = 31 by omega, show (32 * m + 31) / 32 = m by omega]
  show (if _ < 0 then _ else _) = _
  rw [if_neg (by omega)]
  have e2 : ((⟨#[UInt8.ofNat (32 * m + 31)]⟩ : ByteArray) ++ t).extract (1 + 0) ((⟨#[UInt8.ofNat (32 * m + 31)]⟩ : ByteArray) ++ t).size = t := str_inj (by
    rw [ext_list, app_list]
    show ((UInt8.ofNat (32 * m + 31) :: t.data.toList).drop 1).take _ = _
    rw [List.drop_one, List.tail_cons, List.take_of_length_le (by rw [ByteArray.size_append, size_data, show ((⟨#[UInt8.ofNat (32 * m + 31)]⟩ : ByteArray)).size = 1 from rfl]; omega)])
  rw [e2]
  rfl
theorem readT_bad {m i : Nat} (hm : m < 8) (hi : i = 28 ∨ i = 29 ∨ i = 30) (t : ByteArray) : readT (⟨#[UInt8.ofNat (32 * m + i)]⟩ ++ t) = (0, 0, 0, ⟨#[UInt8.ofNat (32 * m + i)]⟩ ++ t, 101) := by
  rw [readT_cons _ (UInt8.ofNat (32 * m + i)) t.data.toList (by rw [app_list]; rfl), first_nat hm (by omega), show (32 * m + i) % 32 = i by omega]
  rcases hi with rfl | rfl | rfl <;> rfl

/-- What is read of a text, with no error. -/
theorem readT_parts (s : ByteArray) : (readT s = (0, 0, 0, s, 100) ∨ readT s = (0, 0, 0, s, 101)) ∨
    ∃ j k A n, readT s = (j, k, A, s.extract (1 + n) s.size, 0) ∧ j < 8 ∧ k < 32 ∧ 1 + n ≤ s.size ∧ A < 18446744073709551616 ∧
      (k ≠ 31 → ((s.extract 0 (1 + n) = headB j A) ↔ k = hinfo A) ∧ hext A ≤ n) := by
  cases hs : s.data.toList with
  | nil =>
    have h0 : s.size = 0 := by rw [← size_data, hs]; rfl
    exact .inl (.inl (by rw [readT, if_pos h0]))
  | cons c l =>
    have hsz : s.size = l.length + 1 := by rw [← size_data, hs, List.length_cons]
    rw [readT_cons s c l hs]
    have hc := c.toNat_lt
    cases hn : nby (c.toNat % 32) with
    | none => exact .inl (.inr rfl)
    | some n =>
      show (_ ∨ _) ∨ _
      by_cases hl : l.length < n
      · exact .inl (.inl (if_pos hl))
      · refine .inr ⟨c.toNat / 32, c.toNat % 32, argV (c.toNat % 32) (l.take n), n, if_neg hl, by omega, by omega, by omega, ?_, fun h31 => ?_⟩
        · unfold argV
          split
          · omega
          · have h1 := val_lt (l.take n)
            have h2 : (l.take n).length ≤ 8 := by rw [List.length_take]; have := nby_le hn; omega
            have h3 : 256 ^ (l.take n).length ≤ 256 ^ 8 := Nat.pow_le_pow_right (by decide) h2
            omega
        · have hown : (s.extract 0 (1 + n)).data.toList = c :: l.take n := by
            rw [ext_list, hs, List.drop_zero, Nat.sub_zero, Nat.add_comm, List.take_succ_cons]
          have hcc : UInt8.ofNat (32 * (c.toNat / 32) + c.toNat % 32) = c := by rw [Nat.div_add_mod, UInt8.ofNat_toNat]
          have hln : (l.take n).length = n := by rw [List.length_take]; omega
          by_cases h24 : c.toNat % 32 < 24
          · have hn0 : n = 0 := by rw [nby, if_pos h24] at hn; exact (Option.some.inj hn).symm
            subst hn0
            have eA : argV (c.toNat % 32) (l.take 0) = c.toNat % 32 := by rw [argV, if_pos h24]
            have ei : hinfo (c.toNat % 32) = c.toNat % 32 := by rw [hinfo, if_pos h24]
            have ex : hext (c.toNat % 32) = 0 := by rw [hext, if_pos h24]
            rw [eA, ei, ex]
            refine ⟨⟨fun _ => rfl, fun _ => str_inj ?_⟩, Nat.le_refl _⟩
            rw [hown, headB_list, headL, ei, ex, hcc]
            rfl
          · have hn4 : n = 1 ∨ n = 2 ∨ n = 4 ∨ n = 8 := by
              unfold nby at hn
              rw [if_neg h24] at hn
              repeat' split at hn
              all_goals first | (have := Option.some.inj hn; omega) | cases hn | (exfalso; omega)
            have eA : argV (c.toNat % 32) (l.take n) = valL (l.take n) := by rw [argV, if_neg h24]
            rw [eA]
            have hlt := val_lt (l.take n)
            rw [hln] at hlt
            have hbig := big_val (l.take n)
            rw [hln] at hbig
            have hx := hext_le_of hn4 hlt
            refine ⟨⟨fun he => ?_, fun he => str_inj ?_⟩, hx⟩
            · have h1 : (s.extract 0 (1 + n)).data.toList = (headB (c.toNat / 32) (valL (l.take n))).data.toList := congrArg (fun b : ByteArray => b.data.toList) he
              rw [hown, headB_list, headL] at h1
              have h2 := congrArg UInt8.toNat (List.cons.inj h1).1
              have hi := hinfo_le (valL (l.take n))
              rw [first_nat (by omega) (by omega)] at h2
              omega
            · have h1 := nby_info (valL (l.take n))
              rw [← he, hn] at h1
              rw [hown, headB_list, headL, ← he, hcc, ← Option.some.inj h1, hbig]
end Go.Proofs.YtgaaiiacdeejfaaDoor
