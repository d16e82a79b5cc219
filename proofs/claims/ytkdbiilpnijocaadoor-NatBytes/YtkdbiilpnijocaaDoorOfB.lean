/- The walks of OfBytes, Right and To. -/
import Derived.Test.YtkdbiilpnijocaaDoorPow
import Derived.Test.YtkdbiilpnijocaaDoorBts
import Derived.Test.YtkdbiilpnijocaaDoorTxt
import Derived.Test.YtkdbiilpnijocaaDoorRead
import Derived.Lib.ParseIntBCases
import Derived.Lib.SmallJoins
namespace Go.Proofs.YtkdbiilpnijocaaDoor
open Go.RowKit
open Go.Lib (decDigits)

/-- The number of bytes, the greatest one first. -/
def bv (l : List UInt8) : Nat := l.foldl (fun a c => a * 256 + c.toNat) 0
theorem bv_snoc (l : List UInt8) (c : UInt8) : bv (l ++ [c]) = bv l * 256 + c.toNat := by simp [bv]
theorem bv_take (s : ByteArray) (k : Nat) (hk : k < s.size) : bv (s.data.toList.take (k + 1)) = bv (s.data.toList.take k) * 256 + (byteAt s k).toNat := by
  have hl : k < s.data.toList.length := by simpa using hk
  rw [List.take_succ_eq_append_getElem hl, bv_snoc, byteAt_list, List.getElem?_eq_getElem hl]
  rfl
theorem bv_mono (l : List UInt8) (k : Nat) : bv (l.take k) ≤ bv l := by
  have key : ∀ (m : List UInt8) (a : Nat), a ≤ m.foldl (fun a c => a * 256 + c.toNat) a := by
    intro m
    induction m with
    | nil => intro a; exact Nat.le_refl _
    | cons c m ih => intro a; rw [List.foldl_cons]; have := ih (a * 256 + c.toNat); omega
  conv => rhs; rw [← List.take_append_drop k l, bv, List.foldl_append]
  exact key _ _

theorem scale_256 (X : List Nat) (v : Value) (m : Nat) (w : World) (hX : X.length ≤ 900) (hx : Lm w v X) (bX : Bd X) (hm : m < 4294967296) :
    Calls Tryd.prog 49 #[v, .int .u32 256, .int .u32 (m : Int)] w (RetV (val X * 256 + m) (X.length + 2) w) := scale_calls X v 256 m w hX hx bX (by omega) hm

theorem not_empty {s : ByteArray} (h : 0 < s.size) : s.toList.isEmpty = false := by
  rw [ByteArray.toList_eq]
  cases e : s.data.toList with
  | nil =>
    have := congrArg List.length e
    rw [Array.length_toList, List.length_nil] at this
    have h1 : s.data.size = s.size := rfl
    omega
  | cons => rfl

set_option maxRecDepth 100000 in
set_option maxHeartbeats 1000000 in
theorem OfBytes_no (s : ByteArray) (w : World) (h0 : 0 < s.size) (hz : (byteAt s 0).toNat = 0) : Calls Tryd.prog 29 #[.string s] w fun e w' => e = .returned (.tuple #[.string ⟨#[]⟩, .int .i64 10]) ∧ Below w.heap.size w w' := by
  have hne : s.toList.isEmpty = false := not_empty h0
  have hb : (((s[0]'h0).toNat : Int) == 0) = true := by rw [← byteAt_eq s 0 h0, hz]; rfl
  go_enter Tryd.func29, Tryd.ntmps29
  go_wp2
  go_ret2
  exact ⟨rfl, Below.refl _ _⟩

set_option maxRecDepth 100000 in
set_option maxHeartbeats 1000000 in
theorem OfBytes_some (s : ByteArray) (w : World) (h0 : 0 < s.size) (hmax : s.size ≤ 100000) (hz : (byteAt s 0).toNat ≠ 0) (htab : Tab w) : Calls Tryd.prog 29 #[.string s] w (TellPost (bv s.data.toList) w) := by
  have HT := Lib.hid htab
  have hne : s.toList.isEmpty = false := not_empty h0
  have hb : (((s[0]'h0).toNat : Int) == 0) = false := by rw [← byteAt_eq s 0 h0]; exact beq_eq_false_iff_ne.2 (by omega)
  have hb' : ¬ (((s[0]'h0).toNat : Int) = 0) := by rw [← byteAt_eq s 0 h0]; omega
  clear htab
  go_enter Tryd.func29, Tryd.ntmps29
  go_wp2
  clear hb hb' hne
  go_loopw [4, 15] (fun v i wr => ∃ (X : List Nat) (k : Nat), i = .int .i64 k ∧ k ≤ s.size ∧ Lm wr v X ∧ Bd X ∧ Nm X ∧ val X = bv (s.data.toList.take k) ∧ X.length ≤ 45 ∧ Below w.heap.size w wr)
    (fun _ i _ => s.size - (intOf i).toNat)
  case atStart => exact ⟨[], 0, rfl, Nat.zero_le _, .inl ⟨rfl, rfl⟩, fun j => by simp [lat], .inl rfl, by simp [val, vt, bv], by simp, Below.refl _ _⟩
  case round =>
    obtain ⟨X, k, rfl, hk, hl, hbd, hnm, hv, hlen, hnx⟩ := hrel
    obtain ⟨ao, cp, rfl⟩ := hl.shape
    have HL := Lib.hid hl
    have HV := Lib.hid hv
    have HB := Lib.hid hnx
    clear hl hv hnx
    by_cases hlt : k < s.size
    · have hby : (byteAt s k).toNat < 256 := (byteAt s k).toNat_lt
      have hbe : (s[k]'hlt).toNat = (byteAt s k).toNat := by rw [byteAt_eq s k hlt]
      go_wp2_with (first
        | (go_at_call 49; refine (scale_256 X _ _ _ (by omega) HL.out hbd (by omega)).mono ?_; rintro e w2 ⟨R, v2, rfl, hl2, hd2, hn2, hv2, hr2, hb2⟩; obtain ⟨a2, c2, rfl⟩ := hl2.shape; have HL2 := Lib.hid hl2; have HV2 := Lib.hid (hv2.trans ((congrArg (fun x => x * 256 + (byteAt s k).toNat) HV.out).trans (bv_take s k hlt).symm)); have HT2 := Lib.hid ((HT.out.below HB.out).below hb2); clear hl2 hv2)
        | (go_at_call 38; refine (tell_calls R _ _ (by omega) HL2.out hd2 hn2 HT2.out).mono ?_; rintro e w3 ⟨rfl, hb3⟩))
      · go_ret2
        have hlong := long_lim hn2 (by omega)
        exact tell_over (a := val R) ⟨rfl, (HB.out.trans (hb2.mono HB.out.size)).trans (hb3.mono (by have := HB.out.size; have := hb2.size; omega))⟩ hlong
          (by rw [HV2.out] at hlong; exact Nat.le_trans hlong (bv_mono _ _))
      · go_roundw
        case rel => exact ⟨R, k + 1, by go_num, by omega, HL2.out, hd2, hn2, HV2.out, by omega, HB.out.trans (hb2.mono HB.out.size)⟩
        case measure => simp [intOf]; omega
    · obtain rfl : k = s.size := by omega
      have HT2 := Lib.hid (HT.out.below HB.out)
      go_wp2_with (go_at_call 38; refine (tell_calls X _ _ (by omega) HL.out hbd hnm HT2.out).mono ?_; rintro e w3 ⟨rfl, hb3⟩)
      go_ret2
      exact ⟨by rw [HV.out, List.take_of_length_le (by simp)]; rfl, HB.out.trans (hb3.mono HB.out.size)⟩

theorem tell_nil (w : World) (ht : Tab w) : Calls Tryd.prog 38 #[.slice none 0 0] w (TellPost 0 w) := by
  have h : val [] = 0 := rfl
  rw [← h]
  exact tell_calls [] (.slice none 0 0) w (by simp) (.inl ⟨rfl, rfl⟩) (fun j => by simp [lat]) (.inl rfl) ht

set_option maxRecDepth 100000 in
set_option maxHeartbeats 1000000 in
theorem OfBytes_empty (w : World) (htab : Tab w) : Calls Tryd.prog 29 #[.string ⟨#[]⟩] w (TellPost 0 w) := by
  have HT := Lib.hid htab
  clear htab
  go_enter Tryd.func29, Tryd.ntmps29
  go_wp2
  go_loopw [4, 15] (fun v i wr => v = .slice none 0 0 ∧ i = .int .i64 0 ∧ wr = w) (fun _ _ _ => 0)
  case atStart => exact ⟨rfl, rfl, rfl⟩
  case round =>
    obtain ⟨rfl, rfl, rfl⟩ := hrel
    go_wp2_with (go_at_call 38; refine (tell_nil _ HT.out).mono ?_; rintro e w3 ⟨rfl, hb3⟩)
    go_ret2
    exact ⟨rfl, hb3⟩

set_option maxRecDepth 100000 in
set_option maxHeartbeats 1000000 in
theorem Right_yes (s : ByteArray) (w : World) (h : isNat s.data.toList = true) : Calls Tryd.prog 19 #[.string s] w fun e w' => e = .returned (.bool true) ∧ Below w.heap.size w w' := by
  have HA := Lib.hid h
  clear h
  go_enter Tryd.func19, Tryd.ntmps19
  go_wp2_with (go_at_call 45; refine (read_yes _ _ HA.out).mono ?_; rintro e w1 ⟨R1, v1, rfl, hl1, hd1', hn1, hv1, hr1, hb1⟩; clear hl1 hv1)
  go_ret
  exact ⟨rfl, hb1⟩

set_option maxRecDepth 100000 in
set_option maxHeartbeats 1000000 in
theorem Right_no (s : ByteArray) (w : World) (h : isNat s.data.toList = false) : Calls Tryd.prog 19 #[.string s] w fun e w' => e = .returned (.bool false) ∧ Below w.heap.size w w' := by
  have HA := Lib.hid h
  clear h
  go_enter Tryd.func19, Tryd.ntmps19
  go_wp2_with (go_at_call 45; refine (read_none _ _ HA.out).mono ?_; rintro e w1 ⟨rfl, hb1⟩)
  go_ret
  exact ⟨rfl, hb1⟩

theorem parse_m (l : List UInt8) : l.all isD = true → ∀ acc, acc ≤ 18446744073709551615 → Lib.parseUintM 18446744073709551615 acc l = if l.foldl (fun a c => a * 10 + (c.toNat - 48)) acc ≤ 18446744073709551615 then .ok (l.foldl (fun a c => a * 10 + (c.toNat - 48)) acc) else .range := by
  have mono : ∀ (m : List UInt8) (a : Nat), a ≤ m.foldl (fun a c => a * 10 + (c.toNat - 48)) a := by
    intro m
    induction m with
    | nil => intro a; exact Nat.le_refl _
    | cons c m ih => intro a; rw [List.foldl_cons]; have := ih (a * 10 + (c.toNat - 48)); omega
  induction l with
  | nil => intro _ acc h; rw [Lib.parseUintM, List.foldl_nil, if_pos h]
  | cons c l ih =>
    intro h acc ha
    rw [List.all_cons, Bool.and_eq_true] at h
    have hc := (isD_iff c).1 h.1
    have hm := mono l (acc * 10 + (c.toNat - 48))
    rw [Lib.parseUintM, if_pos hc, List.foldl_cons]
    by_cases h1 : 1844674407370955162 ≤ acc
    · rw [if_pos h1, if_neg (by omega)]
    · rw [if_neg h1]
      by_cases h2 : 18446744073709551615 < acc * 10 + (c.toNat - 48)
      · rw [if_pos h2, if_neg (by omega)]
      · rw [if_neg h2, ih h.2 _ (by omega)]

theorem parse_nat {l : List UInt8} (h : isNat l = true) : Lib.parseUintB 64 l = if dv l ≤ 18446744073709551615 then .ok (dv l) else .range := by
  obtain ⟨h1, _, _, h4⟩ := isNat_parts h
  rw [Lib.parseUintB, if_neg h1]
  exact parse_m l h4 0 (by omega)

set_option maxRecDepth 100000 in
set_option maxHeartbeats 1000000 in
theorem To_yes (s : ByteArray) (w : World) (h : isNat s.data.toList = true) (hs : s.size ≤ 1000) (hlt : dv s.data.toList < 18446744073709551616) : Calls Tryd.prog 31 #[.string s] w fun e w' => e = .returned (.tuple #[.int .u64 (dv s.data.toList : Nat), .bool true]) ∧ Below w.heap.size w w' := by
  have HP := Lib.hid (show Lib.parseUintB 64 s.data.toList = .ok (dv s.data.toList) by rw [parse_nat h, if_pos (by omega)])
  have HA := Lib.hid h
  clear h
  go_enter Tryd.func31, Tryd.ntmps31
  go_wp2_with (first
    | (go_at_call 19; refine (Right_yes _ _ HA.out).mono ?_; rintro e w1 ⟨rfl, hb1⟩; have HB1 := Lib.hid hb1; clear hb1)
    | (go_at_call 51; refine (Tryd.strconv_ParseUint_10_at64_ok s (by omega) _ HP.out _).mono ?_; rintro e w2 ⟨rfl, hw2⟩; have HW2 := Lib.hid hw2; clear hw2))
  go_ret2
  refine ⟨rfl, ?_⟩
  rcases HW2.out with rfl | rfl
  · exact HB1.out
  · exact HB1.out.trans (Joins.below_bytesWorld _ _ _ _ HB1.out.size)
end Go.Proofs.YtkdbiilpnijocaaDoor
