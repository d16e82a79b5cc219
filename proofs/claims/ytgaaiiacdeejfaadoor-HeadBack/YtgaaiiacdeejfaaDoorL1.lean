/- The walks of shown, HeadGrows, HeadMore. -/
import Derived.Test.YtgaaiiacdeejfaaDoorL0
namespace Go.Proofs.YtgaaiiacdeejfaaDoor
open Go.RowKit

theorem shown_make : AnsH 11 #[.int .i64 1, .int .u64 500] (.tuple #[.string ⟨#[57, 1, 244]⟩, .int .i64 0]) := Make_ans 1 500 (by decide)
theorem shown_r1 : AnsH 13 #[.string ⟨#[88, 24, 120]⟩] (.tuple #[.int .i64 2, .int .i64 24, .int .u64 24, .string ⟨#[120]⟩, .int .i64 0]) := Read_ans ⟨#[88, 24, 120]⟩
theorem shown_r2 : AnsH 13 #[.string ⟨#[28]⟩] (.tuple #[.int .i64 0, .int .i64 0, .int .u64 0, .string ⟨#[28]⟩, .int .i64 101]) := Read_ans ⟨#[28]⟩

set_option maxRecDepth 100000 in
set_option maxHeartbeats 1000000 in
theorem shownH_ans : AnsH 10 #[] (.bool true) := fun w hT => by
  have HT := Lib.hid hT
  have H1 := Lib.hid shown_make
  have H2 := Lib.hid shown_r1
  have H3 := Lib.hid shown_r2
  clear hT
  go_enter Tryd.func10, Tryd.ntmps10
  go_wp2_with (first
      | (go_at_call 11; (with_reducible refine (H1.out _ HT.out).mono ?_); rintro e' w1 ⟨rfl, hb⟩; have HB1 := Lib.hid hb; have HT1 := Lib.hid (HT.out.below hb); clear hb)
      | (go_at_call 13; (with_reducible refine (H2.out _ HT1.out).mono ?_); rintro e' w2 ⟨rfl, hb⟩; have HB2 := Lib.hid (HB1.out.trans (hb.mono HB1.out.size)); have HT2 := Lib.hid (HT1.out.below hb); clear hb)
      | (go_at_call 13; (with_reducible refine (H3.out _ HT2.out).mono ?_); rintro e' w3 ⟨rfl, hb⟩; have HB3 := Lib.hid (HB2.out.trans (hb.mono HB2.out.size)); have HT3 := Lib.hid (HT2.out.below hb); clear hb))
  go_ret
  exact ⟨rfl, HB3.out⟩

set_option maxRecDepth 100000 in
set_option maxHeartbeats 1000000 in
theorem grows_calls (a b : Nat) (w : World) (ha : a < 18446744073709551616) (hb : b < 18446744073709551616) (hT : SizT w) : Calls Tryd.prog 7 #[.int .u64 (a : Int), .int .u64 (b : Int)] w fun e w' => e = .returned (.bool true) ∧ Below w.heap.size w w' := by
  have HT := Lib.hid hT
  have HA := Lib.hid (Size_ans a ha)
  have HC := Lib.hid (Size_ans b hb)
  have hx := hext_le a
  have hm : a ≤ b → hext a ≤ hext b := hext_mono
  obtain ⟨N, hN⟩ : ∃ N : Int, N = 1 + (hext a : Int) := ⟨_, rfl⟩
  obtain ⟨M, hM⟩ : ∃ M : Int, M = 1 + (hext b : Int) := ⟨_, rfl⟩
  rw [← hN] at HA
  rw [← hM] at HC
  have d1 : decide (1 ≤ N) = true := by simp; omega
  have d2 : decide (N ≤ 9) = true := by simp; omega
  have d3 : a ≤ b → decide (N ≤ M) = true := fun h => by have := hm h; simp; omega
  clear hT ha hb hx hm hN hM
  by_cases hab : b < a
  · have d4 : decide (b < a) = true := by simpa using hab
    clear d3 hab
    go_enter Tryd.func7, Tryd.ntmps7
    go_wp2_with (first
      | (go_at_call 10; (with_reducible refine (shownH_ans _ HT.out).mono ?_); rintro e' w1 ⟨rfl, hb⟩; have HB1 := Lib.hid hb; have HT1 := Lib.hid (HT.out.below hb); clear hb)
      | (go_at_call 16; (with_reducible refine (HA.out _ HT1.out).mono ?_); rintro e' w2 ⟨rfl, hb⟩; have HB2 := Lib.hid (HB1.out.trans (hb.mono HB1.out.size)); have HT2 := Lib.hid (HT1.out.below hb); clear hb)
      | (go_at_call 16; (with_reducible refine (HA.out _ HT2.out).mono ?_); rintro e' w3 ⟨rfl, hb⟩; have HB3 := Lib.hid (HB2.out.trans (hb.mono HB2.out.size)); have HT3 := Lib.hid (HT2.out.below hb); clear hb))
    go_ret
    exact ⟨rfl, HB3.out⟩
  · have d4 : decide (b < a) = false := by simpa using hab
    have d5 := d3 (by omega)
    clear d3 hab
    go_enter Tryd.func7, Tryd.ntmps7
    go_wp2_with (first
      | (go_at_call 10; (with_reducible refine (shownH_ans _ HT.out).mono ?_); rintro e' w1 ⟨rfl, hb⟩; have HB1 := Lib.hid hb; have HT1 := Lib.hid (HT.out.below hb); clear hb)
      | (go_at_call 16; (with_reducible refine (HA.out _ HT1.out).mono ?_); rintro e' w2 ⟨rfl, hb⟩; have HB2 := Lib.hid (HB1.out.trans (hb.mono HB1.out.size)); have HT2 := Lib.hid (HT1.out.below hb); clear hb)
      | (go_at_call 16; (with_reducible refine (HC.out _ HT2.out).mono ?_); rintro e' w3 ⟨rfl, hb⟩; have HB3 := Lib.hid (HB2.out.trans (hb.mono HB2.out.size)); have HT3 := Lib.hid (HT2.out.below hb); clear hb)
      | (go_at_call 16; (with_reducible refine (HA.out _ HT3.out).mono ?_); rintro e' w4 ⟨rfl, hb⟩; have HB4 := Lib.hid (HB3.out.trans (hb.mono HB3.out.size)); have HT4 := Lib.hid (HT3.out.below hb); clear hb)
      | (go_at_call 16; (with_reducible refine (HA.out _ HT4.out).mono ?_); rintro e' w5 ⟨rfl, hb⟩; have HB5 := Lib.hid (HB4.out.trans (hb.mono HB4.out.size)); have HT5 := Lib.hid (HT4.out.below hb); clear hb))
    go_ret
    exact ⟨rfl, HB5.out⟩

set_option maxRecDepth 100000 in
set_option maxHeartbeats 1000000 in
theorem more_none (m q : Int) (a : Nat) (A : ByteArray) (e : Int) (w : World) (hT : SizT w) (hM : AnsH 11 #[.int .i64 m, .int .u64 (a : Int)] (.tuple #[.string A, .int .i64 e]))
    (h : e ≠ 0 ∨ q < 0 ∨ (A.size : Int) ≤ q) : Calls Tryd.prog 5 #[.int .i64 m, .int .u64 (a : Int), .int .i64 q] w fun e w' => e = .returned (.bool true) ∧ Below w.heap.size w w' := by
  have HT := Lib.hid hT
  have HM := Lib.hid hM
  clear hT hM
  by_cases h1 : e = 0
  · subst h1
    by_cases h2 : q < 0
    · have d2 : decide (q < 0) = true := by simp; omega
      clear h h2
      go_enter Tryd.func5, Tryd.ntmps5
      go_wp2_with (first
      | (go_at_call 10; (with_reducible refine (shownH_ans _ HT.out).mono ?_); rintro e' w1 ⟨rfl, hb⟩; have HB1 := Lib.hid hb; have HT1 := Lib.hid (HT.out.below hb); clear hb)
      | (go_at_call 11; (with_reducible refine (HM.out _ HT1.out).mono ?_); rintro e' w2 ⟨rfl, hb⟩; have HB2 := Lib.hid (HB1.out.trans (hb.mono HB1.out.size)); have HT2 := Lib.hid (HT1.out.below hb); clear hb))
      go_ret
      exact ⟨rfl, HB2.out⟩
    · have d2 : decide (q < 0) = false := by simp; omega
      have d3 : decide ((A.size : Int) ≤ q) = true := by simp; omega
      clear h h2
      go_enter Tryd.func5, Tryd.ntmps5
      go_wp2_with (first
      | (go_at_call 10; (with_reducible refine (shownH_ans _ HT.out).mono ?_); rintro e' w1 ⟨rfl, hb⟩; have HB1 := Lib.hid hb; have HT1 := Lib.hid (HT.out.below hb); clear hb)
      | (go_at_call 11; (with_reducible refine (HM.out _ HT1.out).mono ?_); rintro e' w2 ⟨rfl, hb⟩; have HB2 := Lib.hid (HB1.out.trans (hb.mono HB1.out.size)); have HT2 := Lib.hid (HT1.out.below hb); clear hb))
      go_ret
      exact ⟨rfl, HB2.out⟩
  · have d1 : (e == 0) = false := by simpa using h1
    clear h
    go_enter Tryd.func5, Tryd.ntmps5
    go_wp2_with (first
      | (go_at_call 10; (with_reducible refine (shownH_ans _ HT.out).mono ?_); rintro e' w1 ⟨rfl, hb⟩; have HB1 := Lib.hid hb; have HT1 := Lib.hid (HT.out.below hb); clear hb)
      | (go_at_call 11; (with_reducible refine (HM.out _ HT1.out).mono ?_); rintro e' w2 ⟨rfl, hb⟩; have HB2 := Lib.hid (HB1.out.trans (hb.mono HB1.out.size)); have HT2 := Lib.hid (HT1.out.below hb); clear hb))
    go_ret
    exact ⟨rfl, HB2.out⟩

set_option maxRecDepth 100000 in
set_option maxHeartbeats 1000000 in
theorem more_some (m q : Int) (a : Nat) (A T : ByteArray) (w : World) (hT : SizT w) (hM : AnsH 11 #[.int .i64 m, .int .u64 (a : Int)] (.tuple #[.string A, .int .i64 0]))
    (h0 : 0 ≤ q) (h1 : q < (A.size : Int)) (hAT : A.extract 0 q.toNat = T) (hR : AnsH 13 #[.string T] (.tuple #[.int .i64 0, .int .i64 0, .int .u64 0, .string T, .int .i64 100])) :
    Calls Tryd.prog 5 #[.int .i64 m, .int .u64 (a : Int), .int .i64 q] w fun e w' => e = .returned (.bool true) ∧ Below w.heap.size w w' := by
  have HT := Lib.hid hT
  have HM := Lib.hid hM
  have HR := Lib.hid hR
  have d2 : decide (q < 0) = false := by simp; omega
  have d3 : decide ((A.size : Int) ≤ q) = false := by simp; omega
  have hsl : ∀ W : World, (Instr.slice 9 (.string A) none (some (.int .i64 q)) none).run Tryd.prog W = .ok (.string T) W := fun W => by
    rw [run_slice_string_h W 9 A Tryd.underlying9 .i64 q h0 (by omega), hAT]
  clear hT hM hR h0 h1 hAT
  go_enter Tryd.func5, Tryd.ntmps5
  go_wp2_with (first
      | (go_at_call 10; (with_reducible refine (shownH_ans _ HT.out).mono ?_); rintro e' w1 ⟨rfl, hb⟩; have HB1 := Lib.hid hb; have HT1 := Lib.hid (HT.out.below hb); clear hb)
      | (go_at_call 11; (with_reducible refine (HM.out _ HT1.out).mono ?_); rintro e' w2 ⟨rfl, hb⟩; have HB2 := Lib.hid (HB1.out.trans (hb.mono HB1.out.size)); have HT2 := Lib.hid (HT1.out.below hb); clear hb)
      | (go_at_call 13; (with_reducible refine (HR.out _ HT2.out).mono ?_); rintro e' w3 ⟨rfl, hb⟩; have HB3 := Lib.hid (HB2.out.trans (hb.mono HB2.out.size)); have HT3 := Lib.hid (HT2.out.below hb); clear hb))
  go_ret
  exact ⟨rfl, HB3.out⟩
theorem more_calls (m : Int) (a : Nat) (q : Int) (w : World) (ha : a < 18446744073709551616) (hT : SizT w) : Calls Tryd.prog 5 #[.int .i64 m, .int .u64 (a : Int), .int .i64 q] w fun e w' => e = .returned (.bool true) ∧ Below w.heap.size w w' := by
  have hM := Make_ans m a ha
  by_cases hm : 0 ≤ m ∧ m ≤ 7
  · rw [mkB, mkE, if_pos hm, if_pos hm] at hM
    have hs := headB_size m.toNat a
    by_cases hq : 0 ≤ q ∧ q < ((headB m.toNat a).size : Int)
    · refine more_some m q a _ _ w hT hM hq.1 hq.2 rfl ?_
      have hR := Read_ans ((headB m.toNat a).extract 0 q.toNat)
      rwa [readT_cut (by omega) (by omega)] at hR
    · exact more_none m q a _ _ w hT hM (by omega)
  · rw [mkB, mkE, if_neg hm, if_neg hm] at hM
    exact more_none m q a _ _ w hT hM (by omega)
end Go.Proofs.YtgaaiiacdeejfaaDoor
