/- The walk of NatSums. -/
import Derived.Test.YtkdbiilpnijocaaDoorRf4
namespace Go.Proofs.YtkdbiilpnijocaaDoor
open Go.RowKit

set_option maxRecDepth 100000 in
set_option maxHeartbeats 1000000 in
theorem sums_walk (a b g k : ByteArray) (c e h l : Int) (r : Bool) (w : World) (htab : Tab w)
    (h13 : Ans 13 #[.string (cutB a), .string (cutB b)] (.tuple #[.int .i64 c, .int .i64 e])) (h14 : Ans 14 #[.string (cutB a), .string (cutB b)] (.tuple #[.int .i64 c, .int .i64 e]))
    (h15 : Ans 15 #[.string (cutB a), .string (cutB b)] (.tuple #[.string g, .int .i64 h])) (h16 : Ans 16 #[.string (cutB a), .string (cutB b)] (.tuple #[.string g, .int .i64 h]))
    (h17 : Ans 17 #[.string (cutB a), .string (cutB b)] (.tuple #[.string k, .int .i64 l])) (h18 : Ans 18 #[.string (cutB a), .string (cutB b)] (.tuple #[.string k, .int .i64 l]))
    (h19 : Ans 19 #[.string (cutB a)] (.bool r)) (h20 : Ans 20 #[.string (cutB a)] (.bool r)) :
    Calls Tryd.prog 3 #[.string a, .string b] w fun e w' => e = .returned (.bool true) ∧ Below w.heap.size w w' := by
  have HT := Lib.hid htab
  have H13 := Lib.hid h13
  have H14 := Lib.hid h14
  have H15 := Lib.hid h15
  have H16 := Lib.hid h16
  have H17 := Lib.hid h17
  have H18 := Lib.hid h18
  have H19 := Lib.hid h19
  have H20 := Lib.hid h20
  clear htab h13 h14 h15 h16 h17 h18 h19 h20
  go_enter Tryd.func3, Tryd.ntmps3
  go_wp2_with (first
    | (go_at_call 11; refine (shown_calls _ HT.out).mono ?_; rintro e w1 ⟨rfl, hb1⟩; have HB1 := Lib.hid hb1; have HT1 := Lib.hid (HT.out.below hb1); clear hb1)
    | (go_at_call 12; refine (cut_calls _ _).mono ?_; rintro e w2 ⟨rfl, rfl⟩))
  generalize cutB a = A at *
  generalize cutB b = B at *
  refine (H13.out _ HT1.out).mono ?_
  rintro e' w2 ⟨rfl, hb2⟩
  have HB2 := Lib.hid (HB1.out.trans (hb2.mono HB1.out.size)); have HT2 := Lib.hid (HT1.out.below hb2); clear hb2
  cases r
  all_goals go_wp2_with (first
    | (go_at_call 14; refine (H14.out _ HT2.out).mono ?_; rintro e' w3 ⟨rfl, hb3⟩; have HB3 := Lib.hid (HB2.out.trans (hb3.mono HB2.out.size)); have HT3 := Lib.hid (HT2.out.below hb3); clear hb3)
    | (go_at_call 15; refine (H15.out _ HT3.out).mono ?_; rintro e' w4 ⟨rfl, hb4⟩; have HB4 := Lib.hid (HB3.out.trans (hb4.mono HB3.out.size)); have HT4 := Lib.hid (HT3.out.below hb4); clear hb4)
    | (go_at_call 16; refine (H16.out _ HT4.out).mono ?_; rintro e' w5 ⟨rfl, hb5⟩; have HB5 := Lib.hid (HB4.out.trans (hb5.mono HB4.out.size)); have HT5 := Lib.hid (HT4.out.below hb5); clear hb5)
    | (go_at_call 17; refine (H17.out _ HT5.out).mono ?_; rintro e' w6 ⟨rfl, hb6⟩; have HB6 := Lib.hid (HB5.out.trans (hb6.mono HB5.out.size)); have HT6 := Lib.hid (HT5.out.below hb6); clear hb6)
    | (go_at_call 18; refine (H18.out _ HT6.out).mono ?_; rintro e' w7 ⟨rfl, hb7⟩; have HB7 := Lib.hid (HB6.out.trans (hb7.mono HB6.out.size)); have HT7 := Lib.hid (HT6.out.below hb7); clear hb7)
    | (go_at_call 19; refine (H19.out _ HT7.out).mono ?_; rintro e' w8 ⟨rfl, hb8⟩; have HB8 := Lib.hid (HB7.out.trans (hb8.mono HB7.out.size)); have HT8 := Lib.hid (HT7.out.below hb8); clear hb8)
    | (go_at_call 20; refine (H20.out _ HT8.out).mono ?_; rintro e' w9 ⟨rfl, hb9⟩; have HB9 := Lib.hid (HB8.out.trans (hb9.mono HB8.out.size)); clear hb9))
  all_goals go_ret
  all_goals exact ⟨rfl, HB9.out⟩

theorem ans_same {f : FuncId} {args : Array Value} {v : Value} (h : ∀ w, Calls Tryd.prog f args w fun e w' => e = .returned v ∧ w' = w) : Ans f args v :=
  fun w _ => (h w).mono fun e w' ⟨h1, h2⟩ => ⟨h1, by rw [h2]; exact Below.refl _ _⟩

theorem sums_calls (a b : ByteArray) (w : World) (htab : Tab w) : Calls Tryd.prog 3 #[.string a, .string b] w fun e w' => e = .returned (.bool true) ∧ Below w.heap.size w w' := by
  have h19 : Ans 19 #[.string (cutB a)] (.bool (isNat (cutB a).data.toList)) := fun w _ => by
    cases h : isNat (cutB a).data.toList with
    | true => exact Right_yes _ w h
    | false => exact Right_no _ w h
  have h20 : Ans 20 #[.string (cutB a)] (.bool (isNat (cutB a).data.toList)) := ans_same (fun w => rRight_calls _ w)
  cases h : (isNat (cutB a).data.toList && isNat (cutB b).data.toList) with
  | false =>
    exact sums_walk a b noB noB 0 10 10 10 _ w htab (fun w _ => Compare_no _ _ w h) (ans_same fun w => rCompare_no _ _ w h) (Add_none _ _ h) (ans_same fun w => rAdd_no _ _ w h) (Sub_nil _ _ h) (ans_same fun w => rSub_no _ _ w h) h19 h20
  | true =>
    obtain ⟨h1, h2⟩ := Bool.and_eq_true_iff.1 h
    have hC := fun w (_ : Tab w) => Compare_yes _ _ w h1 h2
    have hC' := fun w (_ : Tab w) => rCompare_yes _ _ w h1 h2
    have hA : ∃ g : ByteArray, ∃ x : Int, Ans 15 #[.string (cutB a), .string (cutB b)] (.tuple #[.string g, .int .i64 x]) ∧ Ans 16 #[.string (cutB a), .string (cutB b)] (.tuple #[.string g, .int .i64 x]) := by
      rcases ans_tell (fun w ht => Add_yes _ _ w h1 h2 ht) with ⟨l1, a1⟩ | ⟨l1, a1⟩ <;> rcases ans_tell (fun w _ => rAdd_yes _ _ w h1 h2) with ⟨l2, a2⟩ | ⟨l2, a2⟩
      · exact ⟨_, _, a1, a2⟩
      · omega
      · omega
      · exact ⟨_, _, a1, a2⟩
    obtain ⟨g, x, hA1, hA2⟩ := hA
    rcases Nat.lt_or_ge (dv (cutB a).data.toList) (dv (cutB b).data.toList) with h3 | h3
    · exact sums_walk a b g noB _ 0 x 10 _ w htab hC hC' hA1 hA2 (fun w _ => Sub_lt _ _ w h1 h2 h3) (fun w _ => rSub_lt _ _ w h1 h2 h3) h19 h20
    · exact sums_walk a b g _ _ 0 x 0 _ w htab hC hC' hA1 hA2 (Sub_ans _ _ h1 h2 h3) (fun w _ => rSub_yes _ _ w h1 h2 h3) h19 h20
end Go.Proofs.YtkdbiilpnijocaaDoor
