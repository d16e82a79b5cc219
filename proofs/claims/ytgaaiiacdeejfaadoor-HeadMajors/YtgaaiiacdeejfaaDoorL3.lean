/- The walks of HeadMajors, HeadShorts. -/
import Derived.Test.YtgaaiiacdeejfaaDoorL2
namespace Go.Proofs.YtgaaiiacdeejfaaDoor
open Go.RowKit


set_option maxRecDepth 100000 in
set_option maxHeartbeats 1000000 in
theorem majors_none (m q : Int) (a : Nat) (w : World) (hT : SizT w) (h : m < 0 ∨ q < 0 ∨ 7 < m ∨ 7 < q) : Calls Tryd.prog 8 #[.int .i64 m, .int .i64 q, .int .u64 (a : Int)] w fun e w' => e = .returned (.bool true) ∧ Below w.heap.size w w' := by
  have HT := Lib.hid hT
  clear hT
  by_cases h1 : m < 0
  · have d1 : decide (m < 0) = true := by simpa using h1
    clear h
    go_enter Tryd.func8, Tryd.ntmps8
    go_wp2_with (first
      | (go_at_call 10; (with_reducible refine (shownH_ans _ HT.out).mono ?_); rintro e' w1 ⟨rfl, hb⟩; have HB1 := Lib.hid hb; have HT1 := Lib.hid (HT.out.below hb); clear hb))
    go_ret
    exact ⟨rfl, HB1.out⟩
  have d1 : decide (m < 0) = false := by simpa using h1
  by_cases h2 : q < 0
  · have d2 : decide (q < 0) = true := by simpa using h2
    clear h h1
    go_enter Tryd.func8, Tryd.ntmps8
    go_wp2_with (first
      | (go_at_call 10; (with_reducible refine (shownH_ans _ HT.out).mono ?_); rintro e' w1 ⟨rfl, hb⟩; have HB1 := Lib.hid hb; have HT1 := Lib.hid (HT.out.below hb); clear hb))
    go_ret
    exact ⟨rfl, HB1.out⟩
  have d2 : decide (q < 0) = false := by simpa using h2
  by_cases h3 : 7 < m
  · have d3 : decide (7 < m) = true := by simpa using h3
    clear h h1 h2
    go_enter Tryd.func8, Tryd.ntmps8
    go_wp2_with (first
      | (go_at_call 10; (with_reducible refine (shownH_ans _ HT.out).mono ?_); rintro e' w1 ⟨rfl, hb⟩; have HB1 := Lib.hid hb; have HT1 := Lib.hid (HT.out.below hb); clear hb))
    go_ret
    exact ⟨rfl, HB1.out⟩
  · have d3 : decide (7 < m) = false := by simpa using h3
    have d4 : decide (7 < q) = true := by simp; omega
    clear h h1 h2 h3
    go_enter Tryd.func8, Tryd.ntmps8
    go_wp2_with (first
      | (go_at_call 10; (with_reducible refine (shownH_ans _ HT.out).mono ?_); rintro e' w1 ⟨rfl, hb⟩; have HB1 := Lib.hid hb; have HT1 := Lib.hid (HT.out.below hb); clear hb))
    go_ret
    exact ⟨rfl, HB1.out⟩

set_option maxRecDepth 100000 in
set_option maxHeartbeats 1000000 in
theorem majors_some (m q a I : Nat) (A B T : ByteArray) (w : World) (hT : SizT w) (hm : m < 8) (hq : q < 8) (hI : I < 32)
    (hM : AnsH 11 #[.int .i64 (m : Int), .int .u64 (a : Int)] (.tuple #[.string A, .int .i64 0])) (hN : AnsH 11 #[.int .i64 (q : Int), .int .u64 (a : Int)] (.tuple #[.string B, .int .i64 0]))
    (hA : 0 < A.size) (hAB : B.size = A.size) (hB : 0 < B.size) (hTA : A.extract 1 A.size = T) (hTB : B.extract 1 B.size = T) (hvA : (A[0]'hA).toNat = 32 * m + I) (hvB : (B[0]'hB).toNat = 32 * q + I) :
    Calls Tryd.prog 8 #[.int .i64 (m : Int), .int .i64 (q : Int), .int .u64 (a : Int)] w fun e w' => e = .returned (.bool true) ∧ Below w.heap.size w w' := by
  have HT := Lib.hid hT
  have HM := Lib.hid hM
  have HN := Lib.hid hN
  have d1 : decide ((m : Int) < 0) = false := by simp
  have d2 : decide ((q : Int) < 0) = false := by simp
  have d3 : decide (7 < (m : Int)) = false := by simp; omega
  have d4 : decide (7 < (q : Int)) = false := by simp; omega
  have d5 : decide ((A.size : Int) < 1) = false := by simp; omega
  have hsA : ∀ W : World, (Instr.slice 9 (.string A) (some (.int .i64 1)) none none).run Tryd.prog W = .ok (.string T) W := fun W => by
    rw [run_slice_string_l W 9 A Tryd.underlying9 .i64 1 (by omega) (by omega)]; exact congrArg (fun x => Result.ok (Value.string x) W) hTA
  have hsB : ∀ W : World, (Instr.slice 9 (.string B) (some (.int .i64 1)) none none).run Tryd.prog W = .ok (.string T) W := fun W => by
    rw [run_slice_string_l W 9 B Tryd.underlying9 .i64 1 (by omega) (by omega)]; exact congrArg (fun x => Result.ok (Value.string x) W) hTB
  obtain ⟨x, hx⟩ : ∃ x, x = 32 * m + I := ⟨_, rfl⟩
  obtain ⟨y, hy⟩ : ∃ y, y = 32 * q + I := ⟨_, rfl⟩
  have hx2 : x < 256 := by omega
  have hy2 : y < 256 := by omega
  have he : ((x : Int) - 32 * (m : Int) == (y : Int) - 32 * (q : Int)) = true := by rw [beq_iff_eq]; omega
  rw [← hx] at hvA
  rw [← hy] at hvB
  clear hT hM hN hTA hTB hx hy
  go_enter Tryd.func8, Tryd.ntmps8
  go_wp2_with (first
      | (go_at_call 10; (with_reducible refine (shownH_ans _ HT.out).mono ?_); rintro e' w1 ⟨rfl, hb⟩; have HB1 := Lib.hid hb; have HT1 := Lib.hid (HT.out.below hb); clear hb)
      | (go_at_call 11; (with_reducible refine (HM.out _ HT1.out).mono ?_); rintro e' w2 ⟨rfl, hb⟩; have HB2 := Lib.hid (HB1.out.trans (hb.mono HB1.out.size)); have HT2 := Lib.hid (HT1.out.below hb); clear hb)
      | (go_at_call 11; (with_reducible refine (HN.out _ HT2.out).mono ?_); rintro e' w3 ⟨rfl, hb⟩; have HB3 := Lib.hid (HB2.out.trans (hb.mono HB2.out.size)); have HT3 := Lib.hid (HT2.out.below hb); clear hb))
  go_quiet (fail)
  go_wp2
  go_ret
  exact ⟨rfl, below_drewN HB3.out _⟩
theorem majors_calls (m q : Int) (a : Nat) (w : World) (ha : a < 18446744073709551616) (hT : SizT w) : Calls Tryd.prog 8 #[.int .i64 m, .int .i64 q, .int .u64 (a : Int)] w fun e w' => e = .returned (.bool true) ∧ Below w.heap.size w w' := by
  by_cases hm : (0 ≤ m ∧ m ≤ 7) ∧ (0 ≤ q ∧ q ≤ 7)
  · have hM := Make_ans m a ha
    have hN := Make_ans q a ha
    rw [mkB, mkE, if_pos hm.1, if_pos hm.1] at hM
    rw [mkB, mkE, if_pos hm.2, if_pos hm.2] at hN
    obtain ⟨x, rfl⟩ : ∃ x : Nat, m = (x : Int) := ⟨m.toNat, by omega⟩
    obtain ⟨y, rfl⟩ : ∃ y : Nat, q = (y : Int) := ⟨q.toNat, by omega⟩
    rw [Int.toNat_natCast] at hM hN
    have s1 := headB_size x a
    have s2 := headB_size y a
    have hi := hinfo_le a
    have tl : ∀ z : Nat, (headB z a).extract 1 (headB z a).size = ⟨(bigL (hext a) a).toArray⟩ := fun z => str_inj (by
      rw [ext_list, headB_list, headL, List.drop_one, List.tail_cons, List.take_of_length_le (by rw [headB_size, bigL_len]; omega)])
    have fs : ∀ z : Nat, z < 8 → ∀ h : 0 < (headB z a).size, ((headB z a)[0]'h).toNat = 32 * z + hinfo a := fun z hz h => by
      rw [← byteAt_eq _ 0 h, byteAt_list, headB_list, headL]
      exact first_nat hz (by omega)
    exact majors_some x y a (hinfo a) _ _ _ w hT (by omega) (by omega) (by omega) hM hN (by omega) (by omega) (by omega) (tl x) (tl y) (fs x (by omega) _) (fs y (by omega) _)
  · exact majors_none m q a w hT (by omega)
end Go.Proofs.YtgaaiiacdeejfaaDoor
