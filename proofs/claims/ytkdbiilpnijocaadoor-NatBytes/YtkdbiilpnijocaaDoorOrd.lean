/- The walk of NatOrder. -/
import Derived.Test.YtkdbiilpnijocaaDoorShown
namespace Go.Proofs.YtkdbiilpnijocaaDoor
open Go.RowKit
open Go.Lib (decDigits)

theorem Compare_is (sa sb : ByteArray) (x : Int) (w : World) (ha : isNat sa.data.toList = true) (hb : isNat sb.data.toList = true) (hx : cmpI (dv sa.data.toList) (dv sb.data.toList) = x) :
    Calls Tryd.prog 13 #[.string sa, .string sb] w fun e w' => e = .returned (.tuple #[.int .i64 x, .int .i64 0]) ∧ Below w.heap.size w w' := hx ▸ Compare_yes sa sb w ha hb
theorem Sub_is (sa sb : ByteArray) (w : World) (ha : isNat sa.data.toList = true) (hb : isNat sb.data.toList = true) (hle : dv sb.data.toList ≤ dv sa.data.toList) (htab : Tab w) :
    Calls Tryd.prog 17 #[.string sa, .string sb] w fun e w' => e = .returned (.tuple #[.string ⟨(decDigits (dv sa.data.toList - dv sb.data.toList)).toArray⟩, .int .i64 0]) ∧ Below w.heap.size w w' :=
  (Sub_yes sa sb w ha hb hle htab).mono fun e w' h => by
    obtain ⟨h1, h2⟩ := h
    have hlt : dv sa.data.toList - dv sb.data.toList < lim := by have := dv_lim ha; omega
    rw [outS_lim hlt, outE_lim hlt] at h1
    exact ⟨h1, h2⟩
theorem Sub_none (sa : ByteArray) (w : World) (ha : isNat sa.data.toList = true) (htab : Tab w) :
    Calls Tryd.prog 17 #[.string sa, .string sa] w fun e w' => e = .returned (.tuple #[.string ⟨#[48]⟩, .int .i64 0]) ∧ Below w.heap.size w w' :=
  (Sub_is sa sa w ha ha (Nat.le_refl _) htab).mono fun e w' h => by
    obtain ⟨h1, h2⟩ := h
    rw [Nat.sub_self, Lib.decDigits_one (by omega)] at h1
    exact ⟨h1, h2⟩

theorem str_inj {a b : ByteArray} (h : a.data.toList = b.data.toList) : a = b := ByteArray.ext (Array.toList_inj.1 h)

set_option maxRecDepth 100000 in
set_option maxHeartbeats 1000000 in
theorem ord_no (a b : ByteArray) (w : World) (htab : Tab w) (h : (isNat (cutB a).data.toList && isNat (cutB b).data.toList) = false) : Calls Tryd.prog 10 #[.string a, .string b] w fun e w' => e = .returned (.bool true) ∧ Below w.heap.size w w' := by
  have HT := Lib.hid htab
  have HN := Lib.hid h
  have HN' := Lib.hid (show (isNat (cutB b).data.toList && isNat (cutB a).data.toList) = false by rw [Bool.and_comm]; exact h)
  clear htab h
  go_enter Tryd.func10, Tryd.ntmps10
  go_wp2_with (first
    | (go_at_call 11; refine (shown_calls _ HT.out).mono ?_; rintro e w1 ⟨rfl, hb1⟩; have HB1 := Lib.hid hb1; have HT1 := Lib.hid (HT.out.below hb1); clear hb1)
    | (go_at_call 12; refine (cut_calls _ _).mono ?_; rintro e w2 ⟨rfl, rfl⟩))
  generalize cutB a = A at *
  generalize cutB b = B at *
  refine (Compare_no _ _ _ HN.out).mono ?_
  rintro e w2 ⟨rfl, hb2⟩
  have HB2 := Lib.hid (HB1.out.trans (hb2.mono HB1.out.size))
  clear hb2
  go_wp2_with fail
  refine (Compare_no _ _ _ HN'.out).mono ?_
  rintro e w3 ⟨rfl, hb3⟩
  have HB3 := Lib.hid (HB2.out.trans (hb3.mono HB2.out.size))
  clear hb3
  go_wp2_with (go_at_call 17; refine (Sub_no _ _ _ HN.out).mono ?_; rintro e w4 ⟨rfl, hb4⟩; have HB4 := Lib.hid (HB3.out.trans (hb4.mono HB3.out.size)); clear hb4)
  go_ret
  exact ⟨rfl, HB4.out⟩

set_option maxRecDepth 100000 in
set_option maxHeartbeats 1000000 in
theorem ord_eq (a b : ByteArray) (w : World) (htab : Tab w) (ha : isNat (cutB a).data.toList = true) (hab : cutB b = cutB a) : Calls Tryd.prog 10 #[.string a, .string b] w fun e w' => e = .returned (.bool true) ∧ Below w.heap.size w w' := by
  have HT := Lib.hid htab
  have HA := Lib.hid ha
  have HAB := Lib.hid hab
  clear htab ha hab
  go_enter Tryd.func10, Tryd.ntmps10
  go_wp2_with (first
    | (go_at_call 11; refine (shown_calls _ HT.out).mono ?_; rintro e w1 ⟨rfl, hb1⟩; have HB1 := Lib.hid hb1; have HT1 := Lib.hid (HT.out.below hb1); clear hb1)
    | (go_at_call 12; refine (cut_calls _ _).mono ?_; rintro e w2 ⟨rfl, rfl⟩))
  rw [HAB.out]
  clear HAB
  generalize cutB a = A at *
  refine (Compare_is _ _ 0 _ HA.out HA.out (by simp [cmpI])).mono ?_
  rintro e w2 ⟨rfl, hb2⟩
  have HB2 := Lib.hid (HB1.out.trans (hb2.mono HB1.out.size))
  have HT2 := Lib.hid (HT1.out.below hb2)
  clear hb2
  go_wp2_with fail
  refine (Compare_is _ _ 0 _ HA.out HA.out (by simp [cmpI])).mono ?_
  rintro e w3 ⟨rfl, hb3⟩
  have HB3 := Lib.hid (HB2.out.trans (hb3.mono HB2.out.size))
  have HT3 := Lib.hid (HT2.out.below hb3)
  clear hb3
  go_wp2_with (go_at_call 17; refine (Sub_none _ _ HA.out HT3.out).mono ?_; rintro e w4 ⟨rfl, hb4⟩; have HB4 := Lib.hid (HB3.out.trans (hb4.mono HB3.out.size)); clear hb4)
  go_ret
  exact ⟨rfl, HB4.out⟩

set_option maxRecDepth 100000 in
set_option maxHeartbeats 1000000 in
theorem ord_lt (a b : ByteArray) (w : World) (htab : Tab w) (ha : isNat (cutB a).data.toList = true) (hb : isNat (cutB b).data.toList = true) (hab : dv (cutB a).data.toList < dv (cutB b).data.toList) : Calls Tryd.prog 10 #[.string a, .string b] w fun e w' => e = .returned (.bool true) ∧ Below w.heap.size w w' := by
  have HT := Lib.hid htab
  have HA := Lib.hid ha
  have HB := Lib.hid hb
  have HAB := Lib.hid hab
  clear htab ha hb hab
  go_enter Tryd.func10, Tryd.ntmps10
  go_wp2_with (first
    | (go_at_call 11; refine (shown_calls _ HT.out).mono ?_; rintro e w1 ⟨rfl, hb1⟩; have HB1 := Lib.hid hb1; have HT1 := Lib.hid (HT.out.below hb1); clear hb1)
    | (go_at_call 12; refine (cut_calls _ _).mono ?_; rintro e w2 ⟨rfl, rfl⟩))
  generalize cutB a = A at *
  generalize cutB b = B at *
  have hne : ¬ A.toList = B.toList := by
    rw [ByteArray.toList_eq, ByteArray.toList_eq]
    intro e; have := HAB.out; rw [e] at this; omega
  refine (Compare_is _ _ (-1) _ HA.out HB.out (by have := HAB.out; simp [cmpI]; omega)).mono ?_
  rintro e w2 ⟨rfl, hb2⟩
  have HB2 := Lib.hid (HB1.out.trans (hb2.mono HB1.out.size))
  clear hb2
  go_wp2_with fail
  refine (Compare_is _ _ 1 _ HB.out HA.out (by have := HAB.out; simp [cmpI]; omega)).mono ?_
  rintro e w3 ⟨rfl, hb3⟩
  have HB3 := Lib.hid (HB2.out.trans (hb3.mono HB2.out.size))
  clear hb3
  go_wp2_with (go_at_call 17; refine (Sub_lt _ _ _ HA.out HB.out HAB.out).mono ?_; rintro e w4 ⟨rfl, hb4⟩; have HB4 := Lib.hid (HB3.out.trans (hb4.mono HB3.out.size)); clear hb4)
  go_ret
  refine ⟨?_, HB4.out⟩
  show Ending.returned (.bool (!(A.toList == B.toList))) = _
  rw [beq_eq_false_iff_ne.2 hne]
  rfl
set_option maxRecDepth 100000 in
set_option maxHeartbeats 1000000 in
theorem ord_gt (a b : ByteArray) (w : World) (htab : Tab w) (ha : isNat (cutB a).data.toList = true) (hb : isNat (cutB b).data.toList = true) (hab : dv (cutB b).data.toList < dv (cutB a).data.toList) : Calls Tryd.prog 10 #[.string a, .string b] w fun e w' => e = .returned (.bool true) ∧ Below w.heap.size w w' := by
  have HT := Lib.hid htab
  have HA := Lib.hid ha
  have HB := Lib.hid hb
  have HAB := Lib.hid hab
  clear htab ha hb hab
  go_enter Tryd.func10, Tryd.ntmps10
  go_wp2_with (first
    | (go_at_call 11; refine (shown_calls _ HT.out).mono ?_; rintro e w1 ⟨rfl, hb1⟩; have HB1 := Lib.hid hb1; have HT1 := Lib.hid (HT.out.below hb1); clear hb1)
    | (go_at_call 12; refine (cut_calls _ _).mono ?_; rintro e w2 ⟨rfl, rfl⟩))
  generalize cutB a = A at *
  generalize cutB b = B at *
  have hne : ¬ A.toList = B.toList := by
    rw [ByteArray.toList_eq, ByteArray.toList_eq]
    intro e; have := HAB.out; rw [e] at this; omega
  refine (Compare_is _ _ 1 _ HA.out HB.out (by have := HAB.out; simp [cmpI]; omega)).mono ?_
  rintro e w2 ⟨rfl, hb2⟩
  have HB2 := Lib.hid (HB1.out.trans (hb2.mono HB1.out.size))
  have HT2 := Lib.hid (HT1.out.below hb2)
  clear hb2
  go_wp2_with fail
  refine (Compare_is _ _ (-1) _ HB.out HA.out (by have := HAB.out; simp [cmpI]; omega)).mono ?_
  rintro e w3 ⟨rfl, hb3⟩
  have HB3 := Lib.hid (HB2.out.trans (hb3.mono HB2.out.size))
  have HT3 := Lib.hid (HT2.out.below hb3)
  clear hb3
  go_wp2_with (go_at_call 17; refine (Sub_is _ _ _ HA.out HB.out (Nat.le_of_lt HAB.out) HT3.out).mono ?_; rintro e w4 ⟨rfl, hb4⟩; have HB4 := Lib.hid (HB3.out.trans (hb4.mono HB3.out.size)); clear hb4)
  go_ret
  refine ⟨?_, HB4.out⟩
  show Ending.returned (.bool (!(A.toList == B.toList))) = _
  rw [beq_eq_false_iff_ne.2 hne]
  rfl

theorem ord_calls (a b : ByteArray) (w : World) (htab : Tab w) : Calls Tryd.prog 10 #[.string a, .string b] w fun e w' => e = .returned (.bool true) ∧ Below w.heap.size w w' := by
  cases h : (isNat (cutB a).data.toList && isNat (cutB b).data.toList) with
  | false => exact ord_no a b w htab h
  | true =>
    obtain ⟨h1, h2⟩ := Bool.and_eq_true_iff.1 h
    rcases Nat.lt_trichotomy (dv (cutB a).data.toList) (dv (cutB b).data.toList) with h3 | h3 | h3
    · exact ord_lt a b w htab h1 h2 h3
    · exact ord_eq a b w htab h1 (str_inj (dv_inj h2 h1 h3.symm))
    · exact ord_gt a b w htab h1 h2 h3
end Go.Proofs.YtkdbiilpnijocaaDoor
