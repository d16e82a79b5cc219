/- The walks of within, zero, Right, Make. -/
import Derived.Test.YtgcalhnfoakggaaGreatDoorE1
import Derived.Test.YtgcalhnfoakggaaGreatDoorNR
import Derived.Test.YtgcalhnfoakggaaGreatDoorSh
import Derived.Deep.RegionHeld3
namespace Go.Proofs.YtgcalhnfoakggaaGreatDoor
open Go.RowKit
open Go.Lib (decDigits nDigits)

set_option maxRecDepth 100000 in
theorem within_calls (x L : Int) (w : World) (h0 : 0 ≤ L) (h1 : L ≤ 100000) : Calls Tryz.prog 54 #[.int .i64 x, .int .i64 L] w fun o w' => o = .returned (.bool (decide (-L ≤ x) && decide (x ≤ L))) ∧ w' = w := by
  have hneg : wrap64 (-L) = -L := by unfold wrap64; omega
  by_cases h2 : -L ≤ x
  · by_cases h3 : x ≤ L
    · have d2 : decide (-L ≤ x) = true := by simpa using h2
      have d3 : decide (x ≤ L) = true := by simpa using h3
      go_enter Tryz.func54, Tryz.ntmps54
      go_wp2
      go_ret
      exact ⟨by first | rfl | (rw [d2, d3]; rfl), rfl⟩
    · have d2 : decide (-L ≤ x) = true := by simpa using h2
      have d3 : decide (x ≤ L) = false := by simpa using h3
      go_enter Tryz.func54, Tryz.ntmps54
      go_wp2
      go_ret
      exact ⟨by first | rfl | (rw [d2, d3]; rfl), rfl⟩
  · have d2 : decide (-L ≤ x) = false := by simpa using h2
    go_enter Tryz.func54, Tryz.ntmps54
    go_wp2
    go_ret
    exact ⟨by first | rfl | (rw [d2]; rfl), rfl⟩
theorem within_is (x L : Int) (b : Bool) (w : World) (h0 : 0 ≤ L) (h1 : L ≤ 100000) (hb : (decide (-L ≤ x) && decide (x ≤ L)) = b) : Calls Tryz.prog 54 #[.int .i64 x, .int .i64 L] w fun o w' => o = .returned (.bool b) ∧ w' = w := hb ▸ within_calls x L w h0 h1

set_option maxRecDepth 100000 in
theorem zero_calls (w : World) : Calls Tryz.prog 52 #[] w fun o w' => o = .returned (.agg #[.bool false, .string ⟨#[48]⟩, .int .i64 0]) ∧ Below w.heap.size w w' := by
  go_enter Tryz.func52, Tryz.ntmps52
  go_wp2
  refine bodyPost_ret (v := .agg #[.bool false, .string ⟨#[48]⟩, .int .i64 0]) (by simp [results, Tryz.results52, go_sem]) rfl ?_
  exact ⟨rfl, (Below.refl _ w).alloc (Nat.le_refl _) _⟩
set_option maxRecDepth 100000 in
set_option maxHeartbeats 1000000 in
theorem Right_walk1 (s : ByteArray) (e : Int) (w : World) (b1 b2 b3 b4 : Bool) (h1 : isNat s.data.toList = b1) (h2 : decide ((s.size : Int) ≤ 100) = b2) (h3 : (decide (-100 ≤ e) && decide (e ≤ 100)) = b3)
    (hsuf : b2 = true → ∀ w, Calls Tryz.prog 55 #[.string s, .string ⟨#[48]⟩] w fun e w' => e = .returned (.bool b4) ∧ w' = w) : Calls Tryz.prog 34 #[.agg #[.bool true, .string s, .int .i64 e]] w (BoolP (b1 && b2 && b3 && !b4) w) := by
  have HS := Lib.hid hsuf
  have HD := Lib.hid h2
  have HN := Lib.hid (fun w => natR_calls s b1 w h1)
  have HW := Lib.hid (fun w => within_is e 100 b3 w (by omega) (by omega) h3)
  have A0 := Lib.hid (DecAt.new w true s e)
  have B0 := Lib.hid ((Below.refl _ w).alloc (Nat.le_refl _) (.cells #[.bool true, .string s, .int .i64 e] 34))
  obtain ⟨W0, hW0⟩ : ∃ W0, W0 = w.alloc (.cells #[.bool true, .string s, .int .i64 e] 34) := ⟨_, rfl⟩
  rw [← hW0] at A0 B0
  clear h1 h3 hsuf
  go_enter Tryz.func34, Tryz.ntmps34
  go_wp2_with fail
  rw [← hW0]
  clear hW0
  have A0d := Lib.hid (show DecAt W0.drew w.heap.size true s e from A0.out)
  have B0d := Lib.hid B0.out.drew
  go_region_held3 (fun w' => w'.cell? ⟨w.heap.size, 0, none⟩ = some (.bool true) ∧ w'.cell? ⟨w.heap.size, 1, none⟩ = some (.string s) ∧ w'.cell? ⟨w.heap.size, 2, none⟩ = some (.int .i64 e))
    (first
      | exact ⟨A0d.out.c0, A0d.out.c1, A0d.out.c2⟩
      | exact ⟨(A0d.out.below hb1).c0, (A0d.out.below hb1).c1, (A0d.out.below hb1).c2⟩)
    ((go_at_call 52; refine (zero_calls _).mono ?_; rintro o w1 ⟨rfl, hb1⟩))
  all_goals
    have A1 := Lib.hid (A0d.out.below hb1)
    have B1 := Lib.hid (below_next B0d.out hb1)
    have c1 := A1.out.c1
    clear hb1
    cases b1
    all_goals
      go_wp2_with (first
        | (go_at_call 53; refine (HN.out _).mono ?_; rintro o w2 ⟨rfl, hb2⟩; have A2 := Lib.hid (A1.out.below hb2); have B2 := Lib.hid (below_next B1.out hb2); clear c1 hb2; have k1 := A2.out.c1; have k2 := A2.out.c2; cases b2)
        | (go_at_call 54; refine (HW.out _).mono ?_; rintro o w3 ⟨rfl, rfl⟩; cases b3)
        | (go_at_call 55; refine (HS.out (by trivial) _).mono ?_; rintro o w3 ⟨rfl, rfl⟩))
      all_goals
        go_ret
        first | exact ⟨rfl, B2.out⟩ | exact absurd HD.out (by decide)
set_option maxRecDepth 100000 in
set_option maxHeartbeats 1000000 in
theorem Right_walk2 (s : ByteArray) (e : Int) (w : World) (b1 b2 b3 b4 : Bool) (h1 : isNat s.data.toList = b1) (h2 : decide ((s.size : Int) ≤ 100) = b2) (h3 : (decide (-100 ≤ e) && decide (e ≤ 100)) = b3)
    (hsuf : b2 = true → ∀ w, Calls Tryz.prog 55 #[.string s, .string ⟨#[48]⟩] w fun e w' => e = .returned (.bool b4) ∧ w' = w) (hq : ¬ s.toList = [48]) : Calls Tryz.prog 34 #[.agg #[.bool false, .string s, .int .i64 e]] w (BoolP (b1 && b2 && b3 && !b4) w) := by
  have HS := Lib.hid hsuf
  have HD := Lib.hid h2
  have HN := Lib.hid (fun w => natR_calls s b1 w h1)
  have HW := Lib.hid (fun w => within_is e 100 b3 w (by omega) (by omega) h3)
  have A0 := Lib.hid (DecAt.new w false s e)
  have B0 := Lib.hid ((Below.refl _ w).alloc (Nat.le_refl _) (.cells #[.bool false, .string s, .int .i64 e] 34))
  obtain ⟨W0, hW0⟩ : ∃ W0, W0 = w.alloc (.cells #[.bool false, .string s, .int .i64 e] 34) := ⟨_, rfl⟩
  rw [← hW0] at A0 B0
  clear h1 h3 hsuf
  have hq2 : (s.toList == [48]) = false := beq_eq_false_iff_ne.2 hq
  go_enter Tryz.func34, Tryz.ntmps34
  go_wp2_with fail
  rw [← hW0]
  clear hW0
  have A0d := Lib.hid (show DecAt W0.drew w.heap.size false s e from A0.out)
  have B0d := Lib.hid B0.out.drew
  go_region_held3 (fun w' => w'.cell? ⟨w.heap.size, 0, none⟩ = some (.bool false) ∧ w'.cell? ⟨w.heap.size, 1, none⟩ = some (.string s) ∧ w'.cell? ⟨w.heap.size, 2, none⟩ = some (.int .i64 e))
    (first
      | exact ⟨A0d.out.c0, A0d.out.c1, A0d.out.c2⟩
      | exact ⟨(A0d.out.below hb1).c0, (A0d.out.below hb1).c1, (A0d.out.below hb1).c2⟩)
    ((go_at_call 52; refine (zero_calls _).mono ?_; rintro o w1 ⟨rfl, hb1⟩))
  all_goals
    have A1 := Lib.hid (A0d.out.below hb1)
    have B1 := Lib.hid (below_next B0d.out hb1)
    have c1 := A1.out.c1
    clear hb1
    cases b1
    all_goals
      go_wp2_with (first
        | (go_at_call 53; refine (HN.out _).mono ?_; rintro o w2 ⟨rfl, hb2⟩; have A2 := Lib.hid (A1.out.below hb2); have B2 := Lib.hid (below_next B1.out hb2); clear c1 hb2; have k1 := A2.out.c1; have k2 := A2.out.c2; cases b2)
        | (go_at_call 54; refine (HW.out _).mono ?_; rintro o w3 ⟨rfl, rfl⟩; cases b3)
        | (go_at_call 55; refine (HS.out (by trivial) _).mono ?_; rintro o w3 ⟨rfl, rfl⟩))
      all_goals
        go_ret
        first | exact ⟨rfl, B2.out⟩ | exact absurd HD.out (by decide)
set_option maxRecDepth 100000 in
set_option maxHeartbeats 1000000 in
theorem Right_walk3 (e : Int) (w : World) (b1 b2 b3 b4 : Bool) (h1 : isNat (ByteArray.mk #[48]).data.toList = b1) (h2 : decide (((ByteArray.mk #[48]).size : Int) ≤ 100) = b2) (h3 : (decide (-100 ≤ e) && decide (e ≤ 100)) = b3)
    (hsuf : b2 = true → ∀ w, Calls Tryz.prog 55 #[.string (ByteArray.mk #[48]), .string ⟨#[48]⟩] w fun e w' => e = .returned (.bool b4) ∧ w' = w) (hq : ¬ e = 0) : Calls Tryz.prog 34 #[.agg #[.bool false, .string (ByteArray.mk #[48]), .int .i64 e]] w (BoolP (b1 && b2 && b3 && !b4) w) := by
  have HS := Lib.hid hsuf
  have HD := Lib.hid h2
  have HN := Lib.hid (fun w => natR_calls (ByteArray.mk #[48]) b1 w h1)
  have HW := Lib.hid (fun w => within_is e 100 b3 w (by omega) (by omega) h3)
  have A0 := Lib.hid (DecAt.new w false (ByteArray.mk #[48]) e)
  have B0 := Lib.hid ((Below.refl _ w).alloc (Nat.le_refl _) (.cells #[.bool false, .string (ByteArray.mk #[48]), .int .i64 e] 34))
  obtain ⟨W0, hW0⟩ : ∃ W0, W0 = w.alloc (.cells #[.bool false, .string (ByteArray.mk #[48]), .int .i64 e] 34) := ⟨_, rfl⟩
  rw [← hW0] at A0 B0
  clear h1 h3 hsuf
  have hq2 : (e == 0) = false := by simpa using hq
  go_enter Tryz.func34, Tryz.ntmps34
  go_wp2_with fail
  rw [← hW0]
  clear hW0
  have A0d := Lib.hid (show DecAt W0.drew w.heap.size false (ByteArray.mk #[48]) e from A0.out)
  have B0d := Lib.hid B0.out.drew
  go_region_held3 (fun w' => w'.cell? ⟨w.heap.size, 0, none⟩ = some (.bool false) ∧ w'.cell? ⟨w.heap.size, 1, none⟩ = some (.string (ByteArray.mk #[48])) ∧ w'.cell? ⟨w.heap.size, 2, none⟩ = some (.int .i64 e))
    (first
      | exact ⟨A0d.out.c0, A0d.out.c1, A0d.out.c2⟩
      | exact ⟨(A0d.out.below hb1).c0, (A0d.out.below hb1).c1, (A0d.out.below hb1).c2⟩)
    ((go_at_call 52; refine (zero_calls _).mono ?_; rintro o w1 ⟨rfl, hb1⟩))
  all_goals
    have A1 := Lib.hid (A0d.out.below hb1)
    have B1 := Lib.hid (below_next B0d.out hb1)
    have c1 := A1.out.c1
    clear hb1
    cases b1
    all_goals
      go_wp2_with (first
        | (go_at_call 53; refine (HN.out _).mono ?_; rintro o w2 ⟨rfl, hb2⟩; have A2 := Lib.hid (A1.out.below hb2); have B2 := Lib.hid (below_next B1.out hb2); clear c1 hb2; have k1 := A2.out.c1; have k2 := A2.out.c2; cases b2)
        | (go_at_call 54; refine (HW.out _).mono ?_; rintro o w3 ⟨rfl, rfl⟩; cases b3)
        | (go_at_call 55; refine (HS.out (by trivial) _).mono ?_; rintro o w3 ⟨rfl, rfl⟩))
      all_goals
        go_ret
        first | exact ⟨rfl, B2.out⟩ | exact absurd HD.out (by decide)
theorem suf48 (l : List UInt8) : Lib.hasSuffix l [48] = (l.getLast? == some 48) := by
  rw [Lib.hasSuffix]
  rcases List.eq_nil_or_concat l with rfl | ⟨m, c, rfl⟩
  · rfl
  · have h1 : (m.concat c).getLast? = some c := by simp
    rw [h1]
    by_cases hc : c = 48
    · subst hc
      have : ([48] : List UInt8).isSuffixOf (m.concat 48) = true := by rw [List.isSuffixOf_iff_suffix]; exact ⟨m, by simp⟩
      rw [this]; rfl
    · have : ([48] : List UInt8).isSuffixOf (m.concat c) = false := by
        rw [Bool.eq_false_iff]
        intro h
        rw [List.isSuffixOf_iff_suffix] at h
        obtain ⟨t, ht⟩ := h
        have := congrArg List.getLast? ht
        simp at this
        exact hc this.symm
      rw [this]
      have : (some c == some (48 : UInt8)) = false := by simpa using hc
      rw [this]

theorem right_zero : rightD false [48] 0 = true := by decide
set_option maxRecDepth 100000 in
set_option maxHeartbeats 1000000 in
theorem Right_zero (w : World) : Calls Tryz.prog 34 #[.agg #[.bool false, .string ⟨#[48]⟩, .int .i64 0]] w (BoolP true w) := by
  have A0 := Lib.hid (DecAt.new w false (ByteArray.mk #[48]) 0)
  have B0 := Lib.hid ((Below.refl _ w).alloc (Nat.le_refl _) (.cells #[.bool false, .string ⟨#[48]⟩, .int .i64 0] 34))
  obtain ⟨W0, hW0⟩ : ∃ W0, W0 = w.alloc (.cells #[.bool false, .string ⟨#[48]⟩, .int .i64 0] 34) := ⟨_, rfl⟩
  rw [← hW0] at A0 B0
  go_enter Tryz.func34, Tryz.ntmps34
  go_wp2_with fail
  rw [← hW0]
  clear hW0
  have A0d := Lib.hid (show DecAt W0.drew w.heap.size false (ByteArray.mk #[48]) 0 from A0.out)
  have B0d := Lib.hid B0.out.drew
  go_region_held3 (fun w' => w'.cell? ⟨w.heap.size, 0, none⟩ = some (.bool false) ∧ w'.cell? ⟨w.heap.size, 1, none⟩ = some (.string ⟨#[48]⟩) ∧ w'.cell? ⟨w.heap.size, 2, none⟩ = some (.int .i64 0))
    (first
      | exact ⟨A0d.out.c0, A0d.out.c1, A0d.out.c2⟩
      | exact ⟨(A0d.out.below hb1).c0, (A0d.out.below hb1).c1, (A0d.out.below hb1).c2⟩)
    ((go_at_call 52; refine (zero_calls _).mono ?_; rintro o w1 ⟨rfl, hb1⟩))
  all_goals
    have B1 := Lib.hid (below_next B0d.out hb1)
    clear hb1
    go_wp2
    go_ret
    exact ⟨rfl, B1.out⟩

theorem right_tests (n : Bool) (s : ByteArray) (e : Int) (h : ¬ (n = false ∧ s.data.toList = [48] ∧ e = 0)) :
    rightD n s.data.toList e = (isNat s.data.toList && decide ((s.size : Int) ≤ 100) && (decide (-100 ≤ e) && decide (e ≤ 100)) && !(Lib.hasSuffix s.data.toList [48])) := by
  rw [suf48]
  by_cases h1 : isNat s.data.toList = true
  · by_cases h2 : s.size ≤ 100
    · have d2 : decide ((s.size : Int) ≤ 100) = true := by simp; omega
      by_cases h3 : s.data.toList = [48]
      · rw [h3, rightD_zero]
        have : (isNat [48] && decide ((s.size : Int) ≤ 100) && (decide (-100 ≤ e) && decide (e ≤ 100)) && !(([48] : List UInt8).getLast? == some 48)) = false := by simp
        rw [this, Bool.eq_false_iff]
        intro h4
        simp only [Bool.and_eq_true, decide_eq_true_eq, Bool.not_eq_true'] at h4
        exact h ⟨h4.2, h3, h4.1⟩
      · rw [rightD_more h1 (by rw [← Lib.size_eq]; exact h2) h3, h1, d2]
        rfl
    · have d2 : decide ((s.size : Int) ≤ 100) = false := by simp; omega
      rw [rightD_long (by rw [← Lib.size_eq]; omega), d2]; simp
  · have h1 : isNat s.data.toList = false := by simpa using h1
    rw [rightD_nat h1, h1]; rfl

theorem pRight_calls (n : Bool) (s : ByteArray) (e : Int) (w : World) : Calls Tryz.prog 34 #[.agg #[.bool n, .string s, .int .i64 e]] w (BoolP (rightD n s.data.toList e) w) := by
  by_cases hz : n = false ∧ s.data.toList = [48] ∧ e = 0
  · obtain ⟨rfl, h2, rfl⟩ := hz
    obtain rfl : s = ⟨#[48]⟩ := str_inj h2
    exact Right_zero w
  · rw [right_tests n s e hz]
    have hsuf : decide ((s.size : Int) ≤ 100) = true → ∀ w, Calls Tryz.prog 55 #[.string s, .string ⟨#[48]⟩] w fun e w' => e = .returned (.bool (Lib.hasSuffix s.data.toList [48])) ∧ w' = w := fun h w =>
      Tryz.strings_HasSuffix s ⟨#[48]⟩ w (by simp at h; omega)
    cases n with
    | true => exact Right_walk1 s e w _ _ _ _ rfl rfl rfl hsuf
    | false =>
      by_cases h2 : s.data.toList = [48]
      · obtain rfl : s = ⟨#[48]⟩ := str_inj h2
        exact Right_walk3 e w _ _ _ _ rfl rfl rfl hsuf (fun he => hz ⟨rfl, h2, he⟩)
      · exact Right_walk2 s e w _ _ _ _ rfl rfl rfl hsuf (by rw [Lib.toList_data]; exact h2)
theorem pRight_is (n : Bool) (s : ByteArray) (e : Int) (b : Bool) (w : World) (h : rightD n s.data.toList e = b) : Calls Tryz.prog 34 #[.agg #[.bool n, .string s, .int .i64 e]] w (BoolP b w) := h ▸ pRight_calls n s e w
end Go.Proofs.YtgcalhnfoakggaaGreatDoor
