/- The walks of HeadShorts. -/
import Derived.Test.YtgaaiiacdeejfaaDoorL2
namespace Go.Proofs.YtgaaiiacdeejfaaDoor
open Go.RowKit


set_option maxRecDepth 100000 in
set_option maxHeartbeats 1000000 in
theorem shorts_err (s C : ByteArray) (E : Int) (w : World) (hT : SizT w) (hC : cutH s = C) (hE : E = 100 ∨ E = 101)
    (hR : AnsH 13 #[.string C] (.tuple #[.int .i64 0, .int .i64 0, .int .u64 0, .string C, .int .i64 E])) :
    Calls Tryd.prog 6 #[.string s] w fun e w' => e = .returned (.bool true) ∧ Below w.heap.size w w' := by
  have HT := Lib.hid hT
  have HR := Lib.hid hR
  have d1 : (C.toList == C.toList) = true := by simp
  clear hT hR
  rcases hE with rfl | rfl
  all_goals
   go_enter Tryd.func6, Tryd.ntmps6
   go_wp2_with (first
      | (go_at_call 10; (with_reducible refine (shownH_ans _ HT.out).mono ?_); rintro e' w1 ⟨rfl, hb⟩; have HB1 := Lib.hid hb; have HT1 := Lib.hid (HT.out.below hb); clear hb)
      | (go_at_call 14; refine (cutH_calls _ _).mono ?_; rintro e' w9 ⟨rfl, rfl⟩)
      | (go_at_call 13; (with_reducible refine (HR.out _ HT1.out).mono ?_); rintro e' w2 ⟨rfl, hb⟩; have HB2 := Lib.hid (HB1.out.trans (hb.mono HB1.out.size)); have HT2 := Lib.hid (HT1.out.below hb); clear hb))
   go_ret
   exact ⟨rfl, HB2.out⟩
set_option maxRecDepth 100000 in
set_option maxHeartbeats 1000000 in
theorem shorts_open (s C R : ByteArray) (j A : Nat) (w : World) (hT : SizT w) (hC : cutH s = C)
    (hR : AnsH 13 #[.string C] (.tuple #[.int .i64 (j : Int), .int .i64 31, .int .u64 (A : Int), .string R, .int .i64 0])) :
    Calls Tryd.prog 6 #[.string s] w fun e w' => e = .returned (.bool true) ∧ Below w.heap.size w w' := by
  have HT := Lib.hid hT
  have HR := Lib.hid hR
  clear hT hR
  go_enter Tryd.func6, Tryd.ntmps6
  go_wp2_with (first
      | (go_at_call 10; (with_reducible refine (shownH_ans _ HT.out).mono ?_); rintro e' w1 ⟨rfl, hb⟩; have HB1 := Lib.hid hb; have HT1 := Lib.hid (HT.out.below hb); clear hb)
      | (go_at_call 14; refine (cutH_calls _ _).mono ?_; rintro e' w9 ⟨rfl, rfl⟩)
      | (go_at_call 13; (with_reducible refine (HR.out _ HT1.out).mono ?_); rintro e' w2 ⟨rfl, hb⟩; have HB2 := Lib.hid (HB1.out.trans (hb.mono HB1.out.size)); have HT2 := Lib.hid (HT1.out.below hb); clear hb))
  go_ret
  exact ⟨rfl, HB2.out⟩
set_option maxRecDepth 100000 in
set_option maxHeartbeats 1000000 in
theorem shorts_some (s C R O A : ByteArray) (j k a n : Nat) (b : Bool) (w : World) (hT : SizT w) (hC : cutH s = C) (hCs : C.size ≤ 40) (hn : 1 + n ≤ C.size) (hk : k ≠ 31)
    (hR : AnsH 13 #[.string C] (.tuple #[.int .i64 (j : Int), .int .i64 (k : Int), .int .u64 (a : Int), .string R, .int .i64 0]))
    (hM : AnsH 11 #[.int .i64 (j : Int), .int .u64 (a : Int)] (.tuple #[.string A, .int .i64 0]))
    (hI : AnsH 18 #[.int .i64 (k : Int), .int .u64 (a : Int)] (.bool b)) (hRs : R.size = C.size - (1 + n)) (hO : C.extract 0 (1 + n) = O) (hOs : O.size = 1 + n) (hb : (O.toList == A.toList) = b) (hOA : A.size ≤ O.size) (hOR : O ++ R = C) :
    Calls Tryd.prog 6 #[.string s] w fun e w' => e = .returned (.bool true) ∧ Below w.heap.size w w' := by
  have HT := Lib.hid hT
  have HR := Lib.hid hR
  have HM := Lib.hid hM
  have HI := Lib.hid hI
  have d1 : ((k : Int) == 31) = false := by simp; omega
  have hsl : ∀ W : World, (Instr.slice 9 (.string C) none (some (.int .i64 ((C.size : Int) - (R.size : Int)))) none).run Tryd.prog W = .ok (.string O) W := fun W => by
    rw [run_slice_string_h W 9 C Tryd.underlying9 .i64 _ (by omega) (by omega), ← hO]
    congr 4
    omega
  have hOx : O = C.extract 0 (C.size - R.size) := by rw [← hO]; congr 1; omega
  subst hOx
  have hmin : min (C.size : Int) (R.size : Int) = (R.size : Int) := by omega
  have hle : A.size ≤ C.size - R.size := by rw [ByteArray.size_extract] at hOA; omega
  have hlt : R.size < C.size := by omega
  have hRC : (R.size : Int) ≤ (C.size : Int) := by omega
  have hOt : ((C.extract 0 (C.size - R.size) ++ R).toList == C.toList) = true := by rw [hOR]; simp
  clear hT hR hM hI hk hn hRs hOs hOR hO hsl hOA
  go_enter Tryd.func6, Tryd.ntmps6
  go_wp2_with (first
      | (go_at_call 10; (with_reducible refine (shownH_ans _ HT.out).mono ?_); rintro e' w1 ⟨rfl, hb⟩; have HB1 := Lib.hid hb; have HT1 := Lib.hid (HT.out.below hb); clear hb)
      | (go_at_call 14; refine (cutH_calls _ _).mono ?_; rintro e' w9 ⟨rfl, rfl⟩)
      | (go_at_call 13; (with_reducible refine (HR.out _ HT1.out).mono ?_); rintro e' w2 ⟨rfl, hb⟩; have HB2 := Lib.hid (HB1.out.trans (hb.mono HB1.out.size)); have HT2 := Lib.hid (HT1.out.below hb); clear hb)
      | (go_at_call 11; (with_reducible refine (HM.out _ HT2.out).mono ?_); rintro e' w3 ⟨rfl, hb⟩; have HB3 := Lib.hid (HB2.out.trans (hb.mono HB2.out.size)); have HT3 := Lib.hid (HT2.out.below hb); clear hb)
      | (go_at_call 18; (with_reducible refine (HI.out _ HT3.out).mono ?_); rintro e' w4 ⟨rfl, hb⟩; have HB4 := Lib.hid (HB3.out.trans (hb.mono HB3.out.size)); have HT4 := Lib.hid (HT3.out.below hb); clear hb))
  all_goals first
    | (exfalso; omega)
    | (exfalso; exact absurd hb (by assumption))
    | (go_ret; exact ⟨rfl, HB5.out⟩)
    | (go_ret; exact ⟨rfl, HB4.out⟩)
theorem toList_beq (a b : ByteArray) {c : Bool} (h : a = b ↔ c = true) : (a.toList == b.toList) = c := by
  rw [Bool.eq_iff_iff, beq_iff_eq, ByteArray.toList_eq, ByteArray.toList_eq]
  exact ⟨fun e => h.1 (str_inj e), fun e => by rw [h.2 e]⟩
theorem shorts_calls (s : ByteArray) (w : World) (hT : SizT w) : Calls Tryd.prog 6 #[.string s] w fun e w' => e = .returned (.bool true) ∧ Below w.heap.size w w' := by
  have hR := Read_ans (cutH s)
  rcases readT_parts (cutH s) with (h | h) | ⟨j, k, a, n, h, hj, hk, hn, ha, hS⟩
  · rw [h] at hR
    exact shorts_err s _ 100 w hT rfl (.inl rfl) hR
  · rw [h] at hR
    exact shorts_err s _ 101 w hT rfl (.inr rfl) hR
  · rw [h] at hR
    by_cases h31 : k = 31
    · subst h31
      exact shorts_open s _ _ j a w hT rfl hR
    · obtain ⟨hS1, hS2⟩ := hS h31
      have hM := Make_ans (j : Int) a ha
      rw [mkB, mkE, if_pos (by omega), if_pos (by omega), Int.toNat_natCast] at hM
      have hOs : ((cutH s).extract 0 (1 + n)).size = 1 + n := by rw [ByteArray.size_extract]; omega
      refine shorts_some s (cutH s) _ _ (headB j a) j k a n ((k : Int) == (hinfo a : Int)) w hT rfl (cutH_size s) hn h31 hR hM (IsShort_ans (k : Int) a ha) ?_ rfl hOs ?_ ?_ ?_
      · rw [ByteArray.size_extract]; omega
      · refine toList_beq _ _ (hS1.trans ?_)
        rw [beq_iff_eq]
        exact ⟨fun e => by rw [e], fun e => by omega⟩
      · rw [headB_size, hOs]; omega
      · refine str_inj ?_
        rw [app_list, ext_list, ext_list, List.drop_zero, Nat.sub_zero]
        conv => rhs; rw [← List.take_append_drop (1 + n) (cutH s).data.toList]
        rw [List.take_of_length_le (l := List.drop (1 + n) _) (by rw [List.length_drop, size_data]; omega)]
end Go.Proofs.YtgaaiiacdeejfaaDoor
