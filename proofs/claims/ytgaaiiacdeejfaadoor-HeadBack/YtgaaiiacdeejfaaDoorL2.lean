/- The walks of HeadBack, HeadMakes. -/
import Derived.Test.YtgaaiiacdeejfaaDoorL1
namespace Go.Proofs.YtgaaiiacdeejfaaDoor
open Go.RowKit


set_option maxRecDepth 100000 in
set_option maxHeartbeats 1000000 in
theorem back_none (m : Int) (a : Nat) (s : ByteArray) (w : World) (hT : SizT w) (hM : AnsH 11 #[.int .i64 m, .int .u64 (a : Int)] (.tuple #[.string noB, .int .i64 2]))
    (h : m < 0 ∨ 7 < m) : Calls Tryd.prog 4 #[.int .i64 m, .int .u64 (a : Int), .string s] w fun e w' => e = .returned (.bool true) ∧ Below w.heap.size w w' := by
  have HT := Lib.hid hT
  have HM := Lib.hid hM
  clear hT hM
  unfold noB at HM
  by_cases h1 : m < 0
  · have d1 : decide (m < 0) = true := by simpa using h1
    clear h
    go_enter Tryd.func4, Tryd.ntmps4
    go_wp2_with (first
      | (go_at_call 10; (with_reducible refine (shownH_ans _ HT.out).mono ?_); rintro e' w1 ⟨rfl, hb⟩; have HB1 := Lib.hid hb; have HT1 := Lib.hid (HT.out.below hb); clear hb)
      | (go_at_call 11; (with_reducible refine (HM.out _ HT1.out).mono ?_); rintro e' w2 ⟨rfl, hb⟩; have HB2 := Lib.hid (HB1.out.trans (hb.mono HB1.out.size)); have HT2 := Lib.hid (HT1.out.below hb); clear hb))
    go_ret
    exact ⟨rfl, HB2.out⟩
  · have d1 : decide (m < 0) = false := by simpa using h1
    have d2 : decide (7 < m) = true := by simp; omega
    clear h h1
    go_enter Tryd.func4, Tryd.ntmps4
    go_wp2_with (first
      | (go_at_call 10; (with_reducible refine (shownH_ans _ HT.out).mono ?_); rintro e' w1 ⟨rfl, hb⟩; have HB1 := Lib.hid hb; have HT1 := Lib.hid (HT.out.below hb); clear hb)
      | (go_at_call 11; (with_reducible refine (HM.out _ HT1.out).mono ?_); rintro e' w2 ⟨rfl, hb⟩; have HB2 := Lib.hid (HB1.out.trans (hb.mono HB1.out.size)); have HT2 := Lib.hid (HT1.out.below hb); clear hb))
    go_ret
    exact ⟨rfl, HB2.out⟩

set_option maxRecDepth 100000 in
set_option maxHeartbeats 1000000 in
theorem back_some (m a I : Nat) (s A C D : ByteArray) (N : Int) (w : World) (hT : SizT w) (hm : m < 8) (hM : AnsH 11 #[.int .i64 (m : Int), .int .u64 (a : Int)] (.tuple #[.string A, .int .i64 0]))
    (hC : cutH s = C) (hCs : C.size ≤ 40) (hAs : A.size ≤ 9) (hD : A ++ C = D) (hR : AnsH 13 #[.string D] (.tuple #[.int .i64 (m : Int), .int .i64 (I : Int), .int .u64 (a : Int), .string C, .int .i64 0]))
    (hN : (A.size : Int) = N) (hS : AnsH 16 #[.int .u64 (a : Int)] (.int .i64 N)) (hI : AnsH 18 #[.int .i64 (I : Int), .int .u64 (a : Int)] (.bool true)) :
    Calls Tryd.prog 4 #[.int .i64 (m : Int), .int .u64 (a : Int), .string s] w fun e w' => e = .returned (.bool true) ∧ Below w.heap.size w w' := by
  have HT := Lib.hid hT
  have HM := Lib.hid hM
  have HR := Lib.hid hR
  have HS := Lib.hid hS
  have HI := Lib.hid hI
  have d1 : decide ((m : Int) < 0) = false := by simp
  have d2 : decide (7 < (m : Int)) = false := by simp; omega
  clear hT hM hR hS hI hm
  go_enter Tryd.func4, Tryd.ntmps4
  go_wp2_with (first
      | (go_at_call 10; (with_reducible refine (shownH_ans _ HT.out).mono ?_); rintro e' w1 ⟨rfl, hb⟩; have HB1 := Lib.hid hb; have HT1 := Lib.hid (HT.out.below hb); clear hb)
      | (go_at_call 11; (with_reducible refine (HM.out _ HT1.out).mono ?_); rintro e' w2 ⟨rfl, hb⟩; have HB2 := Lib.hid (HB1.out.trans (hb.mono HB1.out.size)); have HT2 := Lib.hid (HT1.out.below hb); clear hb)
      | (go_at_call 14; refine (cutH_calls _ _).mono ?_; rintro e' w9 ⟨rfl, rfl⟩)
      | (go_at_call 13; (with_reducible refine (HR.out _ HT2.out).mono ?_); rintro e' w3 ⟨rfl, hb⟩; have HB3 := Lib.hid (HB2.out.trans (hb.mono HB2.out.size)); have HT3 := Lib.hid (HT2.out.below hb); clear hb)
      | (go_at_call 16; (with_reducible refine (HS.out _ HT3.out).mono ?_); rintro e' w4 ⟨rfl, hb⟩; have HB4 := Lib.hid (HB3.out.trans (hb.mono HB3.out.size)); have HT4 := Lib.hid (HT3.out.below hb); clear hb)
      | (go_at_call 18; (with_reducible refine (HI.out _ HT4.out).mono ?_); rintro e' w5 ⟨rfl, hb⟩; have HB5 := Lib.hid (HB4.out.trans (hb.mono HB4.out.size)); have HT5 := Lib.hid (HT4.out.below hb); clear hb))
  go_ret
  exact ⟨rfl, HB5.out⟩
theorem back_calls (m : Int) (a : Nat) (s : ByteArray) (w : World) (ha : a < 18446744073709551616) (hT : SizT w) : Calls Tryd.prog 4 #[.int .i64 m, .int .u64 (a : Int), .string s] w fun e w' => e = .returned (.bool true) ∧ Below w.heap.size w w' := by
  have hM := Make_ans m a ha
  by_cases hm : 0 ≤ m ∧ m ≤ 7
  · rw [mkB, mkE, if_pos hm, if_pos hm] at hM
    obtain ⟨q, rfl⟩ : ∃ q : Nat, m = (q : Int) := ⟨m.toNat, by omega⟩
    rw [Int.toNat_natCast] at hM
    have hs := headB_size q a
    have hx := hext_le a
    have hR := Read_ans (headB q a ++ cutH s)
    rw [readT_app (by omega) ha] at hR
    have hI := IsShort_ans (hinfo a : Int) a ha
    rw [beq_self_eq_true] at hI
    exact back_some q a (hinfo a) s _ _ _ _ w hT (by omega) hM rfl (cutH_size s) (by omega) rfl hR rfl (by rw [hs]; exact Size_ans a ha) hI
  · rw [mkB, mkE, if_neg hm, if_neg hm] at hM
    exact back_none m a s w hT hM (by omega)

set_option maxRecDepth 100000 in
set_option maxHeartbeats 1000000 in
theorem makes_walk (m i N e E k M : Int) (a j : Nat) (s A C X : ByteArray) (b : Bool) (w : World) (hT : SizT w) (hC : cutH s = C)
    (hM : AnsH 11 #[.int .i64 m, .int .u64 (a : Int)] (.tuple #[.string A, .int .i64 e])) (hN : AnsH 12 #[.int .i64 m, .int .u64 (a : Int)] (.tuple #[.string A, .int .i64 e]))
    (hR : AnsH 13 #[.string C] (.tuple #[.int .i64 M, .int .i64 k, .int .u64 (j : Int), .string X, .int .i64 E])) (hQ : AnsH 15 #[.string C] (.tuple #[.int .i64 M, .int .i64 k, .int .u64 (j : Int), .string X, .int .i64 E]))
    (hS : AnsH 16 #[.int .u64 (a : Int)] (.int .i64 N)) (hV : AnsH 17 #[.int .u64 (a : Int)] (.int .i64 N))
    (hI : AnsH 18 #[.int .i64 i, .int .u64 (a : Int)] (.bool b)) (hJ : AnsH 19 #[.int .i64 i, .int .u64 (a : Int)] (.bool b)) :
    Calls Tryd.prog 3 #[.int .i64 m, .int .u64 (a : Int), .string s, .int .i64 i] w fun e w' => e = .returned (.bool true) ∧ Below w.heap.size w w' := by
  have HT := Lib.hid hT
  have HM := Lib.hid hM
  have HN := Lib.hid hN
  have HR := Lib.hid hR
  have HQ := Lib.hid hQ
  have HS := Lib.hid hS
  have HV := Lib.hid hV
  have HI := Lib.hid hI
  have HJ := Lib.hid hJ
  clear hT hM hN hR hQ hS hV hI hJ
  go_enter Tryd.func3, Tryd.ntmps3
  go_wp2_with (first
      | (go_at_call 10; (with_reducible refine (shownH_ans _ HT.out).mono ?_); rintro e' w1 ⟨rfl, hb⟩; have HB1 := Lib.hid hb; have HT1 := Lib.hid (HT.out.below hb); clear hb)
      | (go_at_call 11; (with_reducible refine (HM.out _ HT1.out).mono ?_); rintro e' w2 ⟨rfl, hb⟩; have HB2 := Lib.hid (HB1.out.trans (hb.mono HB1.out.size)); have HT2 := Lib.hid (HT1.out.below hb); clear hb)
      | (go_at_call 12; (with_reducible refine (HN.out _ HT2.out).mono ?_); rintro e' w3 ⟨rfl, hb⟩; have HB3 := Lib.hid (HB2.out.trans (hb.mono HB2.out.size)); have HT3 := Lib.hid (HT2.out.below hb); clear hb)
      | (go_at_call 14; refine (cutH_calls _ _).mono ?_; rintro e' w9 ⟨rfl, rfl⟩)
      | (go_at_call 13; (with_reducible refine (HR.out _ HT3.out).mono ?_); rintro e' w4 ⟨rfl, hb⟩; have HB4 := Lib.hid (HB3.out.trans (hb.mono HB3.out.size)); have HT4 := Lib.hid (HT3.out.below hb); clear hb)
      | (go_at_call 15; (with_reducible refine (HQ.out _ HT4.out).mono ?_); rintro e' w5 ⟨rfl, hb⟩; have HB5 := Lib.hid (HB4.out.trans (hb.mono HB4.out.size)); have HT5 := Lib.hid (HT4.out.below hb); clear hb)
      | (go_at_call 16; (with_reducible refine (HS.out _ HT5.out).mono ?_); rintro e' w6 ⟨rfl, hb⟩; have HB6 := Lib.hid (HB5.out.trans (hb.mono HB5.out.size)); have HT6 := Lib.hid (HT5.out.below hb); clear hb)
      | (go_at_call 17; (with_reducible refine (HV.out _ HT6.out).mono ?_); rintro e' w7 ⟨rfl, hb⟩; have HB7 := Lib.hid (HB6.out.trans (hb.mono HB6.out.size)); have HT7 := Lib.hid (HT6.out.below hb); clear hb)
      | (go_at_call 18; (with_reducible refine (HI.out _ HT7.out).mono ?_); rintro e' w8 ⟨rfl, hb⟩; have HB8 := Lib.hid (HB7.out.trans (hb.mono HB7.out.size)); have HT8 := Lib.hid (HT7.out.below hb); clear hb)
      | (go_at_call 19; (with_reducible refine (HJ.out _ HT8.out).mono ?_); rintro e' w9 ⟨rfl, hb⟩; have HB9 := Lib.hid (HB8.out.trans (hb.mono HB8.out.size)); have HT9 := Lib.hid (HT8.out.below hb); clear hb))
  go_ret
  exact ⟨rfl, HB9.out⟩
theorem makes_calls (m : Int) (a : Nat) (s : ByteArray) (i : Int) (w : World) (ha : a < 18446744073709551616) (hi : (-9223372036854775808 : Int) ≤ i) (hi2 : i ≤ 9223372036854775807) (hT : SizT w) :
    Calls Tryd.prog 3 #[.int .i64 m, .int .u64 (a : Int), .string s, .int .i64 i] w fun e w' => e = .returned (.bool true) ∧ Below w.heap.size w w' :=
  makes_walk m i _ _ _ _ _ a _ s _ _ _ _ w hT rfl (Make_ans m a ha) (rMake_ans m a) (Read_ans (cutH s)) (rRead_ans (cutH s)) (Size_ans a ha) (rSize_ans a) (IsShort_ans i a ha) (rIsShort_ans i a hi hi2)
end Go.Proofs.YtgaaiiacdeejfaaDoor
