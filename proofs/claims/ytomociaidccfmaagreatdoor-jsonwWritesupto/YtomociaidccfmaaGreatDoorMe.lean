/- The walks of within, zero, Right, Make. The walk of Make. The walks of pointed, unsigned, Format. The walk of strconv.FormatUint to the base 10. What the world must hold beside the table: an error of strconv's. The walk of nat's To. The walks of OfInt and ToInt. -/
import Derived.Test.YtomociaidccfmaaGreatDoorMd
import Derived.Test.YtomociaidccfmaaGreatDoorSh
import Derived.Deep.RegionHeld3
import Derived.Lib.LaidTab
import Derived.Lib.AppendIntMem
import Derived.Deep.QuietTactic
import Derived.BigQuiet
import Derived.Lib.Walk
import Derived.Lib.ItoaMem
import Derived.WalkKit
import Derived.WalkSpells
import Derived.WalkLawsBesides
import Derived.BigCall
import Derived.BigGuard
import Derived.Lib.ParseIntBCases
import Derived.Lib.SmallJoins

namespace Go.Proofs.YtomociaidccfmaaGreatDoor
open Go.RowKit
open Go.Lib (decDigits nDigits)

set_option maxRecDepth 100000 in
theorem within_calls (x L : Int) (w : World) (h0 : 0 ≤ L) (h1 : L ≤ 100000) : Calls Tryz.prog 103 #[.int .i64 x, .int .i64 L] w fun o w' => o = .returned (.bool (decide (-L ≤ x) && decide (x ≤ L))) ∧ w' = w := by
  have hneg : wrap64 (-L) = -L := by unfold wrap64; omega
  by_cases h2 : -L ≤ x
  · by_cases h3 : x ≤ L
    · have d2 : decide (-L ≤ x) = true := by simpa using h2
      have d3 : decide (x ≤ L) = true := by simpa using h3
      go_enter Tryz.func103, Tryz.ntmps103
      go_wp2
      go_ret
      exact ⟨by first | rfl | (rw [d2, d3]; rfl), rfl⟩
    · have d2 : decide (-L ≤ x) = true := by simpa using h2
      have d3 : decide (x ≤ L) = false := by simpa using h3
      go_enter Tryz.func103, Tryz.ntmps103
      go_wp2
      go_ret
      exact ⟨by first | rfl | (rw [d2, d3]; rfl), rfl⟩
  · have d2 : decide (-L ≤ x) = false := by simpa using h2
    go_enter Tryz.func103, Tryz.ntmps103
    go_wp2
    go_ret
    exact ⟨by first | rfl | (rw [d2]; rfl), rfl⟩
theorem within_is (x L : Int) (b : Bool) (w : World) (h0 : 0 ≤ L) (h1 : L ≤ 100000) (hb : (decide (-L ≤ x) && decide (x ≤ L)) = b) : Calls Tryz.prog 103 #[.int .i64 x, .int .i64 L] w fun o w' => o = .returned (.bool b) ∧ w' = w := hb ▸ within_calls x L w h0 h1

set_option maxRecDepth 100000 in
theorem zero_calls (w : World) : Calls Tryz.prog 101 #[] w fun o w' => o = .returned (.agg #[.bool false, .string ⟨#[48]⟩, .int .i64 0]) ∧ Below w.heap.size w w' := by
  go_enter Tryz.func101, Tryz.ntmps101
  go_wp2
  refine bodyPost_ret (v := .agg #[.bool false, .string ⟨#[48]⟩, .int .i64 0]) (by simp [results, Tryz.results101, go_sem]) rfl ?_
  exact ⟨rfl, (Below.refl _ w).alloc (Nat.le_refl _) _⟩
set_option maxRecDepth 100000 in
set_option maxHeartbeats 1000000 in
theorem Right_walk1 (s : ByteArray) (e : Int) (w : World) (b1 b2 b3 b4 : Bool) (h1 : isNat s.data.toList = b1) (h2 : decide ((s.size : Int) ≤ 100) = b2) (h3 : (decide (-100 ≤ e) && decide (e ≤ 100)) = b3)
    (hsuf : b2 = true → ∀ w, Calls Tryz.prog 104 #[.string s, .string ⟨#[48]⟩] w fun e w' => e = .returned (.bool b4) ∧ w' = w) : Calls Tryz.prog 82 #[.agg #[.bool true, .string s, .int .i64 e]] w (BoolP (b1 && b2 && b3 && !b4) w) := by
  have HS := Lib.hid hsuf
  have HD := Lib.hid h2
  have HN := Lib.hid (fun w => natR_calls s b1 w h1)
  have HW := Lib.hid (fun w => within_is e 100 b3 w (by omega) (by omega) h3)
  have A0 := Lib.hid (DecAt.new w true s e)
  have B0 := Lib.hid ((Below.refl _ w).alloc (Nat.le_refl _) (.cells #[.bool true, .string s, .int .i64 e] 23))
  obtain ⟨W0, hW0⟩ : ∃ W0, W0 = w.alloc (.cells #[.bool true, .string s, .int .i64 e] 23) := ⟨_, rfl⟩
  rw [← hW0] at A0 B0
  clear h1 h3 hsuf
  go_enter Tryz.func82, Tryz.ntmps82
  go_wp2_with fail
  rw [← hW0]
  clear hW0
  have A0d := Lib.hid (show DecAt W0.drew w.heap.size true s e from A0.out)
  have B0d := Lib.hid B0.out.drew
  go_region_held3 (fun w' => w'.cell? ⟨w.heap.size, 0, none⟩ = some (.bool true) ∧ w'.cell? ⟨w.heap.size, 1, none⟩ = some (.string s) ∧ w'.cell? ⟨w.heap.size, 2, none⟩ = some (.int .i64 e))
    (first
      | exact ⟨A0d.out.c0, A0d.out.c1, A0d.out.c2⟩
      | exact ⟨(A0d.out.below hb1).c0, (A0d.out.below hb1).c1, (A0d.out.below hb1).c2⟩)
    ((go_at_call 101; refine (zero_calls _).mono ?_; rintro o w1 ⟨rfl, hb1⟩))
  all_goals
    have A1 := Lib.hid (A0d.out.below hb1)
    have B1 := Lib.hid (below_next B0d.out hb1)
    have c1 := A1.out.c1
    clear hb1
    cases b1
    all_goals
      go_wp2_with (first
        | (go_at_call 102; refine (HN.out _).mono ?_; rintro o w2 ⟨rfl, hb2⟩; have A2 := Lib.hid (A1.out.below hb2); have B2 := Lib.hid (below_next B1.out hb2); clear c1 hb2; have k1 := A2.out.c1; have k2 := A2.out.c2; cases b2)
        | (go_at_call 103; refine (HW.out _).mono ?_; rintro o w3 ⟨rfl, rfl⟩; cases b3)
        | (go_at_call 104; refine (HS.out (by trivial) _).mono ?_; rintro o w3 ⟨rfl, rfl⟩))
      all_goals
        go_ret
        first | exact ⟨rfl, B2.out⟩ | exact absurd HD.out (by decide)
set_option maxRecDepth 100000 in
set_option maxHeartbeats 1000000 in
theorem Right_walk2 (s : ByteArray) (e : Int) (w : World) (b1 b2 b3 b4 : Bool) (h1 : isNat s.data.toList = b1) (h2 : decide ((s.size : Int) ≤ 100) = b2) (h3 : (decide (-100 ≤ e) && decide (e ≤ 100)) = b3)
    (hsuf : b2 = true → ∀ w, Calls Tryz.prog 104 #[.string s, .string ⟨#[48]⟩] w fun e w' => e = .returned (.bool b4) ∧ w' = w) (hq : ¬ s.toList = [48]) : Calls Tryz.prog 82 #[.agg #[.bool false, .string s, .int .i64 e]] w (BoolP (b1 && b2 && b3 && !b4) w) := by
  have HS := Lib.hid hsuf
  have HD := Lib.hid h2
  have HN := Lib.hid (fun w => natR_calls s b1 w h1)
  have HW := Lib.hid (fun w => within_is e 100 b3 w (by omega) (by omega) h3)
  have A0 := Lib.hid (DecAt.new w false s e)
  have B0 := Lib.hid ((Below.refl _ w).alloc (Nat.le_refl _) (.cells #[.bool false, .string s, .int .i64 e] 23))
  obtain ⟨W0, hW0⟩ : ∃ W0, W0 = w.alloc (.cells #[.bool false, .string s, .int .i64 e] 23) := ⟨_, rfl⟩
  rw [← hW0] at A0 B0
  clear h1 h3 hsuf
  have hq2 : (s.toList == [48]) = false := beq_eq_false_iff_ne.2 hq
  go_enter Tryz.func82, Tryz.ntmps82
  go_wp2_with fail
  rw [← hW0]
  clear hW0
  have A0d := Lib.hid (show DecAt W0.drew w.heap.size false s e from A0.out)
  have B0d := Lib.hid B0.out.drew
  go_region_held3 (fun w' => w'.cell? ⟨w.heap.size, 0, none⟩ = some (.bool false) ∧ w'.cell? ⟨w.heap.size, 1, none⟩ = some (.string s) ∧ w'.cell? ⟨w.heap.size, 2, none⟩ = some (.int .i64 e))
    (first
      | exact ⟨A0d.out.c0, A0d.out.c1, A0d.out.c2⟩
      | exact ⟨(A0d.out.below hb1).c0, (A0d.out.below hb1).c1, (A0d.out.below hb1).c2⟩)
    ((go_at_call 101; refine (zero_calls _).mono ?_; rintro o w1 ⟨rfl, hb1⟩))
  all_goals
    have A1 := Lib.hid (A0d.out.below hb1)
    have B1 := Lib.hid (below_next B0d.out hb1)
    have c1 := A1.out.c1
    clear hb1
    cases b1
    all_goals
      go_wp2_with (first
        | (go_at_call 102; refine (HN.out _).mono ?_; rintro o w2 ⟨rfl, hb2⟩; have A2 := Lib.hid (A1.out.below hb2); have B2 := Lib.hid (below_next B1.out hb2); clear c1 hb2; have k1 := A2.out.c1; have k2 := A2.out.c2; cases b2)
        | (go_at_call 103; refine (HW.out _).mono ?_; rintro o w3 ⟨rfl, rfl⟩; cases b3)
        | (go_at_call 104; refine (HS.out (by trivial) _).mono ?_; rintro o w3 ⟨rfl, rfl⟩))
      all_goals
        go_ret
        first | exact ⟨rfl, B2.out⟩ | exact absurd HD.out (by decide)
set_option maxRecDepth 100000 in
set_option maxHeartbeats 1000000 in
theorem Right_walk3 (e : Int) (w : World) (b1 b2 b3 b4 : Bool) (h1 : isNat (ByteArray.mk #[48]).data.toList = b1) (h2 : decide (((ByteArray.mk #[48]).size : Int) ≤ 100) = b2) (h3 : (decide (-100 ≤ e) && decide (e ≤ 100)) = b3)
    (hsuf : b2 = true → ∀ w, Calls Tryz.prog 104 #[.string (ByteArray.mk #[48]), .string ⟨#[48]⟩] w fun e w' => e = .returned (.bool b4) ∧ w' = w) (hq : ¬ e = 0) : Calls Tryz.prog 82 #[.agg #[.bool false, .string (ByteArray.mk #[48]), .int .i64 e]] w (BoolP (b1 && b2 && b3 && !b4) w) := by
  have HS := Lib.hid hsuf
  have HD := Lib.hid h2
  have HN := Lib.hid (fun w => natR_calls (ByteArray.mk #[48]) b1 w h1)
  have HW := Lib.hid (fun w => within_is e 100 b3 w (by omega) (by omega) h3)
  have A0 := Lib.hid (DecAt.new w false (ByteArray.mk #[48]) e)
  have B0 := Lib.hid ((Below.refl _ w).alloc (Nat.le_refl _) (.cells #[.bool false, .string (ByteArray.mk #[48]), .int .i64 e] 23))
  obtain ⟨W0, hW0⟩ : ∃ W0, W0 = w.alloc (.cells #[.bool false, .string (ByteArray.mk #[48]), .int .i64 e] 23) := ⟨_, rfl⟩
  rw [← hW0] at A0 B0
  clear h1 h3 hsuf
  have hq2 : (e == 0) = false := by simpa using hq
  go_enter Tryz.func82, Tryz.ntmps82
  go_wp2_with fail
  rw [← hW0]
  clear hW0
  have A0d := Lib.hid (show DecAt W0.drew w.heap.size false (ByteArray.mk #[48]) e from A0.out)
  have B0d := Lib.hid B0.out.drew
  go_region_held3 (fun w' => w'.cell? ⟨w.heap.size, 0, none⟩ = some (.bool false) ∧ w'.cell? ⟨w.heap.size, 1, none⟩ = some (.string (ByteArray.mk #[48])) ∧ w'.cell? ⟨w.heap.size, 2, none⟩ = some (.int .i64 e))
    (first
      | exact ⟨A0d.out.c0, A0d.out.c1, A0d.out.c2⟩
      | exact ⟨(A0d.out.below hb1).c0, (A0d.out.below hb1).c1, (A0d.out.below hb1).c2⟩)
    ((go_at_call 101; refine (zero_calls _).mono ?_; rintro o w1 ⟨rfl, hb1⟩))
  all_goals
    have A1 := Lib.hid (A0d.out.below hb1)
    have B1 := Lib.hid (below_next B0d.out hb1)
    have c1 := A1.out.c1
    clear hb1
    cases b1
    all_goals
      go_wp2_with (first
        | (go_at_call 102; refine (HN.out _).mono ?_; rintro o w2 ⟨rfl, hb2⟩; have A2 := Lib.hid (A1.out.below hb2); have B2 := Lib.hid (below_next B1.out hb2); clear c1 hb2; have k1 := A2.out.c1; have k2 := A2.out.c2; cases b2)
        | (go_at_call 103; refine (HW.out _).mono ?_; rintro o w3 ⟨rfl, rfl⟩; cases b3)
        | (go_at_call 104; refine (HS.out (by trivial) _).mono ?_; rintro o w3 ⟨rfl, rfl⟩))
      all_goals
        go_ret
        first | exact ⟨rfl, B2.out⟩ | exact absurd HD.out (by decide)
theorem suf48 (l : List UInt8) : Lib.hasSuffix l [48] = (l.getLast? == some 48) := by
  rw [Lib.hasSuffix]
  rcases List.eq_nil_or_concat l with rfl | ⟨m, c, rfl⟩
  · rfl
  · have h1 : (m.concat c).getLast? = some c := by simp
    rw [h1]
    by_cases hc : c = 48
    · subst hc
      have : ([48] : List UInt8).isSuffixOf (m.concat 48) = true := by rw [List.isSuffixOf_iff_suffix]; exact ⟨m, by simp⟩
      rw [this]; rfl
    · have : ([48] : List UInt8).isSuffixOf (m.concat c) = false := by
        rw [Bool.eq_false_iff]
        intro h
        rw [List.isSuffixOf_iff_suffix] at h
        obtain ⟨t, ht⟩ := h
        have := congrArg List.getLast? ht
        simp at this
        exact hc this.symm
      rw [this]
      have : (some c == some (48 : UInt8)) = false := by simpa using hc
      rw [this]

theorem right_zero : rightD false [48] 0 = true := by decide
set_option maxRecDepth 100000 in
set_option maxHeartbeats 1000000 in
theorem Right_zero (w : World) : Calls Tryz.prog 82 #[.agg #[.bool false, .string ⟨#[48]⟩, .int .i64 0]] w (BoolP true w) := by
  have A0 := Lib.hid (DecAt.new w false (ByteArray.mk #[48]) 0)
  have B0 := Lib.hid ((Below.refl _ w).alloc (Nat.le_refl _) (.cells #[.bool false, .string ⟨#[48]⟩, .int .i64 0] 23))
  obtain ⟨W0, hW0⟩ : ∃ W0, W0 = w.alloc (.cells #[.bool false, .string ⟨#[48]⟩, .int .i64 0] 23) := ⟨_, rfl⟩
  rw [← hW0] at A0 B0
  go_enter Tryz.func82, Tryz.ntmps82
  go_wp2_with fail
  rw [← hW0]
  clear hW0
  have A0d := Lib.hid (show DecAt W0.drew w.heap.size false (ByteArray.mk #[48]) 0 from A0.out)
  have B0d := Lib.hid B0.out.drew
  go_region_held3 (fun w' => w'.cell? ⟨w.heap.size, 0, none⟩ = some (.bool false) ∧ w'.cell? ⟨w.heap.size, 1, none⟩ = some (.string ⟨#[48]⟩) ∧ w'.cell? ⟨w.heap.size, 2, none⟩ = some (.int .i64 0))
    (first
      | exact ⟨A0d.out.c0, A0d.out.c1, A0d.out.c2⟩
      | exact ⟨(A0d.out.below hb1).c0, (A0d.out.below hb1).c1, (A0d.out.below hb1).c2⟩)
    ((go_at_call 101; refine (zero_calls _).mono ?_; rintro o w1 ⟨rfl, hb1⟩))
  all_goals
    have B1 := Lib.hid (below_next B0d.out hb1)
    clear hb1
    go_wp2
    go_ret
    exact ⟨rfl, B1.out⟩

theorem right_tests (n : Bool) (s : ByteArray) (e : Int) (h : ¬ (n = false ∧ s.data.toList = [48] ∧ e = 0)) :
    rightD n s.data.toList e = (isNat s.data.toList && decide ((s.size : Int) ≤ 100) && (decide (-100 ≤ e) && decide (e ≤ 100)) && !(Lib.hasSuffix s.data.toList [48])) := by
  rw [suf48]
  by_cases h1 : isNat s.data.toList = true
  · by_cases h2 : s.size ≤ 100
    · have d2 : decide ((s.size : Int) ≤ 100) = true := by simp; omega
      by_cases h3 : s.data.toList = [48]
      · rw [h3, rightD_zero]
        have : (isNat [48] && decide ((s.size : Int) ≤ 100) && (decide (-100 ≤ e) && decide (e ≤ 100)) && !(([48] : List UInt8).getLast? == some 48)) = false := by simp
        rw [this, Bool.eq_false_iff]
        intro h4
        simp only [Bool.and_eq_true, decide_eq_true_eq, Bool.not_eq_true'] at h4
        exact h ⟨h4.2, h3, h4.1⟩
      · rw [rightD_more h1 (by rw [← Lib.size_eq]; exact h2) h3, h1, d2]
        rfl
    · have d2 : decide ((s.size : Int) ≤ 100) = false := by simp; omega
      rw [rightD_long (by rw [← Lib.size_eq]; omega), d2]; simp
  · have h1 : isNat s.data.toList = false := by simpa using h1
    rw [rightD_nat h1, h1]; rfl

theorem pRight_calls (n : Bool) (s : ByteArray) (e : Int) (w : World) : Calls Tryz.prog 82 #[.agg #[.bool n, .string s, .int .i64 e]] w (BoolP (rightD n s.data.toList e) w) := by
  by_cases hz : n = false ∧ s.data.toList = [48] ∧ e = 0
  · obtain ⟨rfl, h2, rfl⟩ := hz
    obtain rfl : s = ⟨#[48]⟩ := str_inj h2
    exact Right_zero w
  · rw [right_tests n s e hz]
    have hsuf : decide ((s.size : Int) ≤ 100) = true → ∀ w, Calls Tryz.prog 104 #[.string s, .string ⟨#[48]⟩] w fun e w' => e = .returned (.bool (Lib.hasSuffix s.data.toList [48])) ∧ w' = w := fun h w =>
      Tryz.strings_HasSuffix s ⟨#[48]⟩ w (by simp at h; omega)
    cases n with
    | true => exact Right_walk1 s e w _ _ _ _ rfl rfl rfl hsuf
    | false =>
      by_cases h2 : s.data.toList = [48]
      · obtain rfl : s = ⟨#[48]⟩ := str_inj h2
        exact Right_walk3 e w _ _ _ _ rfl rfl rfl hsuf (fun he => hz ⟨rfl, h2, he⟩)
      · exact Right_walk2 s e w _ _ _ _ rfl rfl rfl hsuf (by rw [Lib.toList_data]; exact h2)
theorem pRight_is (n : Bool) (s : ByteArray) (e : Int) (b : Bool) (w : World) (h : rightD n s.data.toList e = b) : Calls Tryz.prog 82 #[.agg #[.bool n, .string s, .int .i64 e]] w (BoolP b w) := h ▸ pRight_calls n s e w
end Go.Proofs.YtomociaidccfmaaGreatDoor

namespace Go.Proofs.YtomociaidccfmaaGreatDoor
open Go.RowKit
open Go.Lib (decDigits nDigits)

def z3 : Obj := .cells #[.bool false, .string ⟨#[]⟩, .int .i64 0] 23
theorem bel3 {w W : World} {B : Nat} (h : Below w.heap.size w W) (hB : w.heap.size ≤ B) (a b c : Value) : Below w.heap.size w (((W.setCell ⟨B, 0, none⟩ a).setCell ⟨B, 1, none⟩ b).setCell ⟨B, 2, none⟩ c) :=
  ((h.setCell (p := ⟨B, 0, none⟩) hB _).setCell (p := ⟨B, 1, none⟩) hB _).setCell (p := ⟨B, 2, none⟩) hB _

theorem decB_zero : decB 0 = ⟨#[48]⟩ := str_inj (by rw [decB_data, Lib.decDigits_one (by omega)]; rfl)
theorem mk_data (l : List UInt8) : (ByteArray.mk l.toArray).data.toList = l := by simp
theorem ne_toList {s : ByteArray} (h : s.data.toList ≠ []) : ¬ s.toList = [] := by rw [Lib.toList_data]; exact h
end Go.Proofs.YtomociaidccfmaaGreatDoor

namespace Go.Proofs.YtomociaidccfmaaGreatDoor
open Go.RowKit
open Go.Lib (decDigits nDigits)

theorem itoa_numB (x : Int) : (ByteArray.mk (Lib.itoa x).toArray) = numB x := str_inj (by
  rw [mk_data, Lib.itoa, numB]
  by_cases h : x < 0
  · rw [if_pos h, if_pos h, app_data, decB_data]; rfl
  · rw [if_neg h, if_neg h, decB_data, show x.natAbs = x.toNat from by omega])
theorem itoa_calls (x : Int) (w : World) (h0 : -100000 ≤ x) (h1 : x ≤ 100000) (hT : Tab w) : Calls Tryz.prog 105 #[.int .i64 x] w fun o w' => o = .returned (.string (numB x)) ∧ Below w.heap.size w w' := by
  refine (Tryz.strconv_Itoa x (by omega) (by omega) w hT).mono ?_
  rintro o w' ⟨rfl, k, os, rfl⟩
  exact ⟨by rw [itoa_numB], Lib.below_grow _ w (Nat.le_refl _) k os⟩
theorem rep_zer (c : Nat) : (ByteArray.mk (Lib.repeatL [48] c).toArray) = zerB c := by
  have : Lib.repeatL [48] c = List.replicate c 48 := by
    have := Lib.repeatL_replicate 48 1 c
    rwa [Nat.mul_one] at this
  rw [this]; rfl
theorem zer_calls (c : Nat) (w : World) (hc : c ≤ 100000) : Calls Tryz.prog 107 #[.string ⟨#[48]⟩, .int .i64 (c : Int)] w fun o w' => o = .returned (.string (zerB c)) ∧ Below w.heap.size w w' := by
  refine (Tryz.strings_Repeat ⟨#[48]⟩ c w (by omega) (by simp [ByteArray.size]; omega)).mono ?_
  rintro o w' ⟨rfl, hb⟩
  exact ⟨by rw [← rep_zer], hb⟩
theorem zer_eq (x : Int) (c : Nat) (w : World) (hx : x = (c : Int)) (hc : c ≤ 100000) : Calls Tryz.prog 107 #[.string ⟨#[48]⟩, .int .i64 x] w fun o w' => o = .returned (.string (zerB c)) ∧ Below w.heap.size w w' := hx ▸ zer_calls c w hc

/-- A point ahead of the last k bytes. -/
def ptB (s : ByteArray) (k : Nat) : ByteArray := s.extract 0 (s.size - k) ++ ⟨#[46]⟩ ++ s.extract (s.size - k) s.size

set_option maxRecDepth 100000 in
set_option maxHeartbeats 1000000 in
theorem pointed_long (s : ByteArray) (k : Nat) (w : World) (hs : s.size ≤ 1000) (hk : k < s.size) : Calls Tryz.prog 106 #[.string s, .int .i64 (k : Int)] w fun o w' => o = .returned (.string (ptB s k)) ∧ Below w.heap.size w w' := by
  obtain ⟨p, hp⟩ : ∃ p, p = s.size - k := ⟨_, rfl⟩
  have hd : (s.size : Int) - (k : Int) = (p : Int) := by omega
  have hps : (p : Int) ≤ (s.size : Int) := by omega
  have hp0 : (0 : Int) ≤ (p : Int) := by omega
  have hm : ¬ (k : Int) + 1 - (s.size : Int) > 0 := by omega
  rw [ptB, ← hp]
  have z1 : (s.extract 0 p).size ≤ 1000 := by rw [ByteArray.size_extract]; omega
  have z2 : (s.extract p s.size).size ≤ 1000 := by rw [ByteArray.size_extract]; omega
  clear hp
  go_enter Tryz.func106, Tryz.ntmps106
  go_wp2
  go_quiet (fail)
  go_wp2
  go_ret
  exact ⟨rfl, below_drewN (Below.refl _ _) _⟩

set_option maxRecDepth 100000 in
set_option maxHeartbeats 1000000 in
theorem pointed_short (s t : ByteArray) (k c : Nat) (w : World) (hk : k ≤ 1000) (hs : s.size ≤ k) (hc : c = k + 1 - s.size) (ht : t = zerB c ++ s) : Calls Tryz.prog 106 #[.string s, .int .i64 (k : Int)] w fun o w' => o = .returned (.string (ptB t k)) ∧ Below w.heap.size w w' := by
  have hts : t.size = k + 1 := by rw [ht, ByteArray.size_append, zerB_size]; omega
  have htz : (t.size : Int) = (k : Int) + 1 := by omega
  have hcz : (k : Int) + 1 - (s.size : Int) = (c : Int) := by omega
  have hc0 : (0 : Int) < (c : Int) := by omega
  have hzs := zerB_size c
  have hd : (k : Int) + 1 - (k : Int) = 1 := by omega
  have HZ := Lib.hid (fun w => zer_calls c w (by omega))
  have HT := Lib.hid ht.symm
  obtain ⟨p, hp⟩ : ∃ p, p = t.size - k := ⟨_, rfl⟩
  rw [ptB, ← hp]
  have z1 : (t.extract 0 p).size ≤ 1000 := by rw [ByteArray.size_extract]; omega
  have z2 : (t.extract p t.size).size ≤ 1001 := by rw [ByteArray.size_extract]; omega
  have HP : Hid ((p : Int) = 1) := Lib.hid (by omega)
  clear hp
  clear hc ht hts
  go_enter Tryz.func106, Tryz.ntmps106
  go_wp2_with (go_at_call 107; refine (HZ.out _).mono ?_; rintro o w1 ⟨rfl, hb1⟩; have HB1 := Lib.hid hb1; clear hb1)
  rw [HT.out, show (c : Int) + (s.size : Int) - (k : Int) = (p : Int) from by have := HP.out; omega]
  have hps : (p : Int) ≤ (t.size : Int) := by have := HP.out; omega
  have hp0 : (0 : Int) ≤ (p : Int) := by omega
  have htk : t.size ≤ 1001 := by omega
  clear hcz hc0 hzs hd htz HZ HT HP
  go_quiet (fail)
  go_wp2
  go_ret
  exact ⟨rfl, below_drewN HB1.out _⟩

theorem pointed_calls (s : ByteArray) (k : Nat) (w : World) (hs : s.size ≤ 1000) (hk : k ≤ 1000) : Calls Tryz.prog 106 #[.string s, .int .i64 (k : Int)] w fun o w' => o = .returned (.string (ptB (zerB (1 + k - s.size) ++ s) k)) ∧ Below w.heap.size w w' := by
  by_cases h : k < s.size
  · have e : zerB (1 + k - s.size) ++ s = s := str_inj (by rw [app_data, zerB_data, show 1 + k - s.size = 0 from by omega]; rfl)
    rw [e]
    exact pointed_long s k w hs h
  · exact pointed_short s _ k _ w hk (by omega) (by omega) rfl

set_option maxRecDepth 100000 in
set_option maxHeartbeats 1000000 in
theorem unsigned_calls (s : ByteArray) (e : Int) (w : World) (hs : s.size ≤ 100) (h1 : -100 ≤ e) (h2 : e ≤ 100) (hT : Tab w) : Calls Tryz.prog 83 #[.string s, .int .i64 e] w fun o w' => o = .returned (.string (fmtB s e)) ∧ Below w.heap.size w w' := by
  cases hb : (decide (-20 ≤ e) && decide (e ≤ 20)) with
  | false =>
    have HW := Lib.hid (fun w => within_is e 20 false w (by omega) (by omega) hb)
    have HI := Lib.hid (fun w => itoa_calls e w (by omega) (by omega))
    have hF : fmtB s e = s ++ ⟨#[101]⟩ ++ numB e := by
      rw [fmtB, if_pos]
      simp only [Bool.and_eq_false_iff, decide_eq_false_iff_not] at hb
      omega
    have HT := Lib.hid hT
    have hn := numB_size (x := e) (by omega) (by omega)
    rw [hF]
    clear hF hb hT
    go_enter Tryz.func83, Tryz.ntmps83
    go_wp2_with (first
      | (go_at_call 103; refine (HW.out _).mono ?_; rintro o w3 ⟨rfl, rfl⟩)
      | (go_at_call 105; refine (HI.out _ HT.out).mono ?_; rintro o w3 ⟨rfl, hb3⟩))
    go_ret
    exact ⟨rfl, hb3⟩
  | true =>
    have HW := Lib.hid (fun w => within_is e 20 true w (by omega) (by omega) hb)
    simp only [Bool.and_eq_true, decide_eq_true_eq] at hb
    obtain ⟨g1, g2⟩ := hb
    by_cases h0 : e < 0
    · obtain ⟨k, rfl⟩ : ∃ k : Nat, e = -(k : Int) := ⟨e.natAbs, by omega⟩
      have HP := Lib.hid (fun w => pointed_calls s k w (by omega) (by omega))
      have hF : fmtB s (-(k : Int)) = ptB (zerB (1 + k - s.size) ++ s) k := by
        rw [fmtB, if_neg (by omega), if_neg (by omega), ptB, show (1 - -(k : Int) - (s.size : Int)).toNat = 1 + k - s.size from by omega, show (-(k : Int)).natAbs = k from by omega]
      rw [hF]
      clear hF hT
      go_enter Tryz.func83, Tryz.ntmps83
      go_wp2_with (first
        | (go_at_call 103; refine (HW.out _).mono ?_; rintro o w3 ⟨rfl, rfl⟩)
        | (go_at_call 106; refine (HP.out _).mono ?_; rintro o w3 ⟨rfl, hb3⟩))
      go_ret
      exact ⟨rfl, hb3⟩
    · obtain ⟨k, rfl⟩ : ∃ k : Nat, e = (k : Int) := ⟨e.toNat, by omega⟩
      have HP := Lib.hid (fun w => zer_calls k w (by omega))
      have hzs := zerB_size k
      have hF : fmtB s (k : Int) = s ++ zerB k := by rw [fmtB, if_neg (by omega), if_pos (by omega)]; rfl
      rw [hF]
      clear hF hT
      go_enter Tryz.func83, Tryz.ntmps83
      go_wp2_with (first
        | (go_at_call 103; refine (HW.out _).mono ?_; rintro o w3 ⟨rfl, rfl⟩)
        | (go_at_call 107; refine (HP.out _).mono ?_; rintro o w3 ⟨rfl, hb3⟩))
      go_ret
      exact ⟨rfl, hb3⟩

theorem fmtB_size {n : Bool} {s : ByteArray} {e : Int} (h : rightD n s.data.toList e = true) : (fmtB s e).size ≤ 300 := by
  obtain ⟨_, hl, h1, h2⟩ := right_parts h
  rw [← Lib.size_eq] at hl
  have hn := numB_size (x := e) (by omega) (by omega)
  rw [fmtB]
  split
  · rw [ByteArray.size_append, ByteArray.size_append, show (ByteArray.mk #[101]).size = 1 from rfl]; omega
  · split
    · rw [ByteArray.size_append, zerB_size]; omega
    · rw [ByteArray.size_append, ByteArray.size_append, ByteArray.size_extract, ByteArray.size_extract, ByteArray.size_append, zerB_size, show (ByteArray.mk #[46]).size = 1 from rfl]; omega
theorem empty_app (s : ByteArray) : (ByteArray.mk #[]) ++ s = s := str_inj (by rw [app_data]; rfl)

set_option maxRecDepth 100000 in
set_option maxHeartbeats 1000000 in
theorem pFormat_calls (n : Bool) (s : ByteArray) (e : Int) (w : World) (hT : Tab w) : Calls Tryz.prog 52 #[.agg #[.bool n, .string s, .int .i64 e]] w (FmtP n s e w) := by
  have A0 := Lib.hid (DecAt.new w n s e)
  have B0 := Lib.hid ((Below.refl _ w).alloc (Nat.le_refl _) (.cells #[.bool n, .string s, .int .i64 e] 23))
  have HT := Lib.hid hT
  cases hr : rightD n s.data.toList e with
  | false =>
    have HR := Lib.hid (fun w => pRight_is n s e false w hr)
    have HF : Hid (fS n s e = noB ∧ fE n s e = 40) := Lib.hid ⟨by rw [fS, hr]; rfl, by rw [fE, hr]; rfl⟩
    clear hr hT
    go_enter Tryz.func52, Tryz.ntmps52
    go_wp2_with (go_at_call 82; refine (HR.out _).mono ?_; rintro o w1 ⟨rfl, hb1⟩)
    go_ret2
    exact ⟨by rw [HF.out.1, HF.out.2]; rfl, below_next B0.out hb1⟩
  | true =>
    have HR := Lib.hid (fun w => pRight_is n s e true w hr)
    obtain ⟨_, hl, h1, h2⟩ := right_parts hr
    rw [← Lib.size_eq] at hl
    have hz := fmtB_size hr
    have HF : Hid (fS n s e = sgnB n (fmtB s e) ∧ fE n s e = 0) := Lib.hid ⟨by rw [fS, if_pos hr], by rw [fE, if_pos hr]⟩
    have HU := Lib.hid (fun w => unsigned_calls s e w hl h1 h2)
    clear hr hT
    cases n
    all_goals
      go_enter Tryz.func52, Tryz.ntmps52
      go_wp2_with (first
        | (go_at_call 82; refine (HR.out _).mono ?_; rintro o w1 ⟨rfl, hb1⟩; have A1 := Lib.hid (A0.out.below hb1); have B1 := Lib.hid (below_next B0.out hb1); clear hb1; have c0 := A1.out.c0; have c1 := A1.out.c1; have c2 := A1.out.c2)
        | (go_at_call 83; refine (HU.out _ (HT.out.below B1.out)).mono ?_; rintro o w2 ⟨rfl, hb2⟩))
      go_ret2
      exact ⟨by rw [HF.out.1, HF.out.2]; first | rfl | (simp only [empty_app]; rfl), below_next B1.out hb2⟩
end Go.Proofs.YtomociaidccfmaaGreatDoor

namespace Go.Proofs.YtomociaidccfmaaGreatDoor
open Go.Shelf Go.RowKit Go.Sort Go.Lib

theorem holds_zero0 (w : World) (T : TypeId) (nd : Nat) (hs : nd ≤ 24) : Holds (fun (b : UInt8) => Value.int .u8 (b.toNat : Int)) (w.alloc (.cells Lib.zeros24 T)) w.heap.size 0 (Array.replicate nd (0 : UInt8)) := fun j hj => by
  have hj' : j < nd := by simpa using hj
  refine ⟨?_, World.frozen?_alloc_new _ _ _ _⟩
  rw [World.cell?_alloc_new, Lib.zeros24_at _ (by omega), getElem!_pos _ j hj]
  simp

theorem below_putRow {B : Nat} {w : World} (o : Obj) (off : Nat) (dk : Array UInt8) (k : Nat) (hB : B ≤ w.heap.size) : Below B w ((putRow (fun (b : UInt8) => Value.int .u8 (b.toNat : Int)) (w.alloc o) w.heap.size off dk).drewN k) := by
  rw [alloc_eq_grow]
  obtain ⟨os', hs, e⟩ := putRow_grow_new (fun (b : UInt8) => Value.int .u8 (b.toNat : Int)) w #[o] w.heap.size off dk (Nat.le_refl _)
  rw [e]
  have h : Below B w (grow w os') := ⟨rfl, rfl, rfl, by simp [grow], fun i hi => by simp only [grow]; rw [Array.getElem?_append_left (by omega)]⟩
  exact below_drewN h k

end Go.Proofs.YtomociaidccfmaaGreatDoor

namespace Go.Proofs.YtomociaidccfmaaGreatDoor
open Go.RowKit
/-- The variable of strconv's second error holds an error. -/
def ErrR (w : World) : Prop := ∃ te pe, w.cell? ⟨7, 0, none⟩ = some (.iface te pe)
theorem ErrR.lt {w : World} (h : ErrR w) : 7 < w.heap.size := by
  obtain ⟨te, pe, h⟩ := h
  rcases Nat.lt_or_ge 7 w.heap.size with h1 | h1
  · exact h1
  · exfalso
    have : w.heap[7]? = none := Array.getElem?_eq_none h1
    simp [World.cell?, this] at h
theorem ErrR.below {w w' : World} (h : ErrR w) (hb : Below w.heap.size w w') : ErrR w' := by
  have hl := h.lt
  obtain ⟨te, pe, h⟩ := h
  exact ⟨te, pe, (hb.cell (p := ⟨7, 0, none⟩) hl).trans h⟩

def ErrT (w : World) : Prop := ErrR w
theorem ErrT.below {w w' : World} (h : ErrT w) (hb : Below w.heap.size w w') : ErrT w' := ErrR.below h hb
end Go.Proofs.YtomociaidccfmaaGreatDoor

namespace Go.Proofs.YtomociaidccfmaaGreatDoor
open Go.RowKit
open Go.Lib (decDigits nDigits)

theorem parse_m (l : List UInt8) : l.all isD = true → ∀ acc, acc ≤ 18446744073709551615 → Lib.parseUintM 18446744073709551615 acc l = if l.foldl (fun a c => a * 10 + (c.toNat - 48)) acc ≤ 18446744073709551615 then .ok (l.foldl (fun a c => a * 10 + (c.toNat - 48)) acc) else .range := by
  have mono : ∀ (m : List UInt8) (a : Nat), a ≤ m.foldl (fun a c => a * 10 + (c.toNat - 48)) a := by
    intro m
    induction m with
    | nil => intro a; exact Nat.le_refl _
    | cons c m ih => intro a; rw [List.foldl_cons]; have := ih (a * 10 + (c.toNat - 48)); omega
  induction l with
  | nil => intro _ acc h; rw [Lib.parseUintM, List.foldl_nil, if_pos h]
  | cons c l ih =>
    intro h acc ha
    rw [List.all_cons, Bool.and_eq_true] at h
    have hc := (isD_iff c).1 h.1
    have hm := mono l (acc * 10 + (c.toNat - 48))
    rw [Lib.parseUintM, if_pos hc, List.foldl_cons]
    by_cases h1 : 1844674407370955162 ≤ acc
    · rw [if_pos h1, if_neg (by omega)]
    · rw [if_neg h1]
      by_cases h2 : 18446744073709551615 < acc * 10 + (c.toNat - 48)
      · rw [if_pos h2, if_neg (by omega)]
      · rw [if_neg h2, ih h.2 _ (by omega)]

theorem parse_nat {l : List UInt8} (h : isNat l = true) : Lib.parseUintB 64 l = if dv l ≤ 18446744073709551615 then .ok (dv l) else .range := by
  obtain ⟨h1, _, _, h4⟩ := isNat_parts h
  rw [Lib.parseUintB, if_neg h1]
  exact parse_m l h4 0 (by omega)

set_option maxRecDepth 100000 in
set_option maxHeartbeats 1000000 in
theorem To_yes (s : ByteArray) (w : World) (h : isNat s.data.toList = true) (hs : s.size ≤ 1000) (hlt : dv s.data.toList < 18446744073709551616) : Calls Tryz.prog 117 #[.string s] w fun e w' => e = .returned (.tuple #[.int .u64 (dv s.data.toList : Nat), .bool true]) ∧ Below w.heap.size w w' := by
  have HP := Lib.hid (show Lib.parseUintB 64 s.data.toList = .ok (dv s.data.toList) by rw [parse_nat h, if_pos (by omega)])
  have HA := Lib.hid h
  clear h
  go_enter Tryz.func117, Tryz.ntmps117
  go_wp2_with (first
    | (go_at_call 102; refine (Right_yes _ _ HA.out).mono ?_; rintro e w1 ⟨rfl, hb1⟩; have HB1 := Lib.hid hb1; clear hb1)
    | (go_at_call 133; refine (Tryz.strconv_ParseUint_10_at64_ok s (by omega) _ HP.out _).mono ?_; rintro e w2 ⟨rfl, hw2⟩; have HW2 := Lib.hid hw2; clear hw2))
  go_ret2
  refine ⟨rfl, ?_⟩
  rcases HW2.out with rfl | rfl
  · exact HB1.out
  · exact HB1.out.trans (Joins.below_bytesWorld _ _ _ _ HB1.out.size)
set_option maxRecDepth 100000 in
set_option maxHeartbeats 1000000 in
theorem To_no (s : ByteArray) (w : World) (h : isNat s.data.toList = false) : Calls Tryz.prog 117 #[.string s] w fun e w' => e = .returned (.tuple #[.int .u64 0, .bool false]) ∧ Below w.heap.size w w' := by
  have HA := Lib.hid h
  clear h
  go_enter Tryz.func117, Tryz.ntmps117
  go_wp2_with (go_at_call 102; refine (Right_no _ _ HA.out).mono ?_; rintro e w1 ⟨rfl, hb1⟩)
  go_ret2
  exact ⟨rfl, hb1⟩

set_option maxRecDepth 100000 in
set_option maxHeartbeats 1000000 in
theorem To_big (s : ByteArray) (w : World) (h : isNat s.data.toList = true) (hs : s.size ≤ 1000) (hge : 18446744073709551616 ≤ dv s.data.toList) (he : ErrR w) : Calls Tryz.prog 117 #[.string s] w fun e w' => e = .returned (.tuple #[.int .u64 0, .bool false]) ∧ Below w.heap.size w w' := by
  have HP := Lib.hid (show Lib.parseUintB 64 s.data.toList = .range by rw [parse_nat h, if_neg (by omega)])
  have HA := Lib.hid h
  have HE := Lib.hid he
  have hcall : ∀ w, ErrR w → Calls Tryz.prog 133 #[.string s, .int .i64 10, .int .i64 64] w fun e w' => ∃ N, e = .returned (.tuple #[.int .u64 18446744073709551615, .iface 206 (.pointer (some ⟨N, 0, none⟩))]) ∧ Below w.heap.size w w' := fun w ⟨te, pe, hc⟩ =>
    (Tryz.strconv_ParseUint_10_at64_range s (by omega) HP.out _ w hc (.inr ⟨te, pe, rfl⟩)).mono fun e w' ⟨N, h1, _, _, h4⟩ => ⟨N, h1, h4⟩
  have HC := Lib.hid hcall
  clear h hge he hcall
  go_enter Tryz.func117, Tryz.ntmps117
  go_wp2_with (first
    | (go_at_call 102; refine (Right_yes _ _ HA.out).mono ?_; rintro e w1 ⟨rfl, hb1⟩; have HB1 := Lib.hid hb1; have HE1 := Lib.hid (HE.out.below hb1); clear hb1)
    | (go_at_call 133; refine (HC.out _ HE1.out).mono ?_; rintro e w2 ⟨N, rfl, hb2⟩))
  go_ret2
  exact ⟨rfl, HB1.out.trans (hb2.mono HB1.out.size)⟩
end Go.Proofs.YtomociaidccfmaaGreatDoor

namespace Go.Proofs.YtomociaidccfmaaGreatDoor
open Go.RowKit
open Go.Lib (decDigits nDigits)

theorem nat_zeros1 {n : Bool} {l : List UInt8} {k : Nat} (h : rightD n l (k : Int) = true) (hk : k ≤ 100) : isNat (l ++ List.replicate k 48) = true := by
  obtain ⟨h1, h2, _, _⟩ := right_parts h
  obtain ⟨g1, g2, g3, g4⟩ := isNat_parts h1
  by_cases hz : l = [48]
  · subst hz
    rw [rightD_zero] at h
    simp at h
    obtain ⟨rfl, _⟩ := h
    decide
  · have hh : l.head? ≠ some 48 := by
      rcases g3 with g | g
      · exact g
      · exact absurd g hz
    have hne : (l ++ List.replicate k 48).isEmpty = false := by
      cases l with
      | nil => exact absurd rfl g1
      | cons c l => rfl
    rw [isNat, hne, List.all_append, g4, List.length_append, List.length_replicate]
    have h5 : ((l ++ List.replicate k 48).head? != some 48) = true := by
      cases l with
      | nil => exact absurd rfl g1
      | cons c l =>
        simp only [List.cons_append, List.head?_cons] at hh ⊢
        simpa using hh
    have h6 : (List.replicate k (48 : UInt8)).all isD = true := by
      rw [List.all_replicate]
      split
      · rfl
      · decide
    rw [h5, h6]
    simp
    omega


set_option maxRecDepth 100000 in
set_option maxHeartbeats 2000000 in
theorem ToInt_no (n : Bool) (s : ByteArray) (e : Int) (w : World) (b : Bool) (hb : rightD n s.data.toList e = b) (h : b = false ∨ (b = true ∧ e < 0)) : Calls Tryz.prog 98 #[.agg #[.bool n, .string s, .int .i64 e]] w fun o w' => o = .returned (.tuple #[.bool false, .int .u64 0, .bool false]) ∧ Below w.heap.size w w' := by
  have HR := Lib.hid (fun w => pRight_is n s e b w hb)
  have A0 := Lib.hid (DecAt.new w n s e)
  have B0 := Lib.hid ((Below.refl _ w).alloc (Nat.le_refl _) (.cells #[.bool n, .string s, .int .i64 e] 23))
  clear hb
  rcases h with rfl | ⟨rfl, he⟩
  · go_enter Tryz.func98, Tryz.ntmps98
    go_wp2_with (go_at_call 82; refine (HR.out _).mono ?_; rintro o w1 ⟨rfl, hb1⟩)
    refine bodyPost_ret (v := .tuple #[.bool false, .int .u64 0, .bool false]) (by simp [results, Tryz.results98, go_sem]) rfl ?_
    exact ⟨rfl, below_next B0.out hb1⟩
  · go_enter Tryz.func98, Tryz.ntmps98
    go_wp2_with (go_at_call 82; refine (HR.out _).mono ?_; rintro o w1 ⟨rfl, hb1⟩; have c2 := (A0.out.below hb1).c2)
    refine bodyPost_ret (v := .tuple #[.bool false, .int .u64 0, .bool false]) (by simp [results, Tryz.results98, go_sem]) rfl ?_
    exact ⟨rfl, below_next B0.out hb1⟩

set_option maxRecDepth 100000 in
set_option maxHeartbeats 2000000 in
theorem ToInt_walk (n : Bool) (s : ByteArray) (k v : Nat) (ok : Bool) (w : World) (hr : rightD n s.data.toList (k : Int) = true) (hs : s.size ≤ 100) (hk : k ≤ 100) (hT : ErrR w)
    (hto : ∀ W, ErrR W → Calls Tryz.prog 117 #[.string (s ++ zerB k)] W fun o w' => o = .returned (.tuple #[.int .u64 (v : Int), .bool ok]) ∧ Below W.heap.size W w') :
    Calls Tryz.prog 98 #[.agg #[.bool n, .string s, .int .i64 (k : Int)]] w fun o w' => o = .returned (if ok = true then .tuple #[.bool n, .int .u64 (v : Int), .bool true] else .tuple #[.bool false, .int .u64 0, .bool false]) ∧ Below w.heap.size w w' := by
  have HR := Lib.hid (fun w => pRight_is n s k true w hr)
  have HTo := Lib.hid hto
  have HZ := Lib.hid (fun w => zer_calls k w (by omega))
  have hno : ¬ 9223372036854775807 < s.size + (zerB k).size := by rw [zerB_size]; omega
  have hno2 : s.size + (zerB k).size ≤ 9223372036854775807 := by rw [zerB_size]; omega
  have HE := Lib.hid hT
  have A0 := Lib.hid (DecAt.new w n s k)
  have B0 := Lib.hid ((Below.refl _ w).alloc (Nat.le_refl _) (.cells #[.bool n, .string s, .int .i64 (k : Int)] 23))
  clear hr hto hT
  go_enter Tryz.func98, Tryz.ntmps98
  go_wp2_with (go_at_call 82; refine (HR.out _).mono ?_; rintro o w1 ⟨rfl, hb1⟩; have c2 := (A0.out.below hb1).c2)
  have A1 := Lib.hid (show DecAt w1.drew w.heap.size n s k from (A0.out.below hb1 : DecAt w1 w.heap.size n s (k : Int)))
  have B1 := Lib.hid (below_next B0.out hb1).drew
  clear hb1 c2
  go_region_held3 (fun w' => w'.cell? ⟨w.heap.size, 1, none⟩ = some (.string s) ∧ w'.cell? ⟨w.heap.size, 2, none⟩ = some (.int .i64 (k : Int)))
    (first
      | exact ⟨A1.out.c1, A1.out.c2⟩
      | exact ⟨(A1.out.below hb2).c1, (A1.out.below hb2).c2⟩
      | exact ⟨((A1.out.below hb2).below hb3).c1, ((A1.out.below hb2).below hb3).c2⟩)
    (first
      | (go_at_call 107; refine (HZ.out _).mono ?_; rintro o w2 ⟨rfl, hb2⟩)
      | (go_at_call 117; refine (HTo.out _ (HE.out.below (below_next B1.out hb2))).mono ?_; rintro o w3 ⟨rfl, hb3⟩))
  have A3 := Lib.hid ((A1.out.below hb2).below hb3)
  have B3 := Lib.hid (below_next (below_next B1.out hb2) hb3)
  have c0 := A3.out.c0
  clear hb2 hb3
  cases ok
  · go_wp2
    refine bodyPost_ret (v := .tuple #[.bool false, .int .u64 0, .bool false]) (by simp [results, Tryz.results98, go_sem]) rfl ?_
    exact ⟨rfl, B3.out⟩
  · go_wp2
    refine bodyPost_ret (v := .tuple #[.bool n, .int .u64 (v : Int), .bool true]) (by simp [results, Tryz.results98, go_sem]) rfl ?_
    exact ⟨rfl, B3.out⟩

theorem right_pos {n : Bool} {l : List UInt8} {e : Int} (h : rightD n l e = true) (he : 0 < e) : 1 ≤ dv l := by
  have h0 : l ≠ [48] := by
    intro hz
    rw [hz, rightD_zero] at h
    simp at h
    omega
  have := (right_num h h0).2.1
  rcases Nat.eq_zero_or_pos (dv l) with h1 | h1
  · rw [h1] at this; exact absurd rfl this
  · exact h1
theorem pToInt_calls (n : Bool) (s : ByteArray) (e : Int) (w : World) (hT : ErrR w) : Calls Tryz.prog 98 #[.agg #[.bool n, .string s, .int .i64 e]] w (ToP (toI n s.data.toList e) w) := by
  cases hr : rightD n s.data.toList e with
  | false =>
    refine (ToInt_no n s e w false hr (.inl rfl)).mono ?_
    rintro o w' ⟨rfl, hb⟩
    exact ⟨by rw [toI, hr, if_neg (by simp)]; rfl, hb⟩
  | true =>
    obtain ⟨_, hl, h1, h2⟩ := right_parts hr
    rw [← Lib.size_eq] at hl
    by_cases he : e < 0
    · refine (ToInt_no n s e w true hr (.inr ⟨rfl, he⟩)).mono ?_
      rintro o w' ⟨rfl, hb⟩
      exact ⟨by rw [toI, if_neg (fun h => by omega)]; rfl, hb⟩
    · obtain ⟨k, rfl⟩ : ∃ k : Nat, e = k := ⟨e.toNat, by omega⟩
      have hnat : isNat (s ++ zerB k).data.toList = true := by
        rw [app_data, zerB_data]
        exact nat_zeros1 hr (by omega)
      have hdv : dv (s ++ zerB k).data.toList = dv s.data.toList * 10 ^ k := by rw [app_data, zerB_data, dv_zeros]
      have hsz : (s ++ zerB k).size ≤ 1000 := by rw [ByteArray.size_append, zerB_size]; omega
      by_cases hlt : dv s.data.toList * 10 ^ k < 18446744073709551616
      · have hk20 : k ≤ 20 := by
          rcases Nat.lt_or_ge 20 k with h | h
          · exfalso
            have h3 := right_pos hr (by omega)
            have h4 : 10 ^ 21 ≤ 10 ^ k := Nat.pow_le_pow_right (by omega) (by omega)
            have h5 : 1 * 10 ^ 21 ≤ dv s.data.toList * 10 ^ k := Nat.mul_le_mul h3 h4
            exact absurd (Nat.lt_of_le_of_lt h5 hlt) (by decide)
          · exact h
        refine (ToInt_walk n s k (dv s.data.toList * 10 ^ k) true w hr hl (by omega) hT (fun W _ => by
          have := To_yes (s ++ zerB k) W hnat hsz (by rw [hdv]; exact hlt)
          rw [hdv] at this
          exact this)).mono ?_
        rintro o w' ⟨rfl, hb⟩
        exact ⟨by rw [toI, if_pos (show rightD n s.data.toList (k : Int) = true ∧ 0 ≤ (k : Int) ∧ (k : Int) ≤ 20 ∧ dv s.data.toList * 10 ^ (k : Int).toNat < 18446744073709551616 from ⟨hr, by omega, by omega, by rw [Int.toNat_natCast]; exact hlt⟩), Int.toNat_natCast]; rfl, hb⟩
      · refine (ToInt_walk n s k 0 false w hr hl (by omega) hT (fun W hW => To_big (s ++ zerB k) W hnat hsz (by rw [hdv]; omega) hW)).mono ?_
        rintro o w' ⟨rfl, hb⟩
        exact ⟨by rw [toI, if_neg (show ¬ (rightD n s.data.toList (k : Int) = true ∧ 0 ≤ (k : Int) ∧ (k : Int) ≤ 20 ∧ dv s.data.toList * 10 ^ (k : Int).toNat < 18446744073709551616) from fun h => hlt (by have := h.2.2.2; rwa [Int.toNat_natCast] at this))]; rfl, hb⟩
end Go.Proofs.YtomociaidccfmaaGreatDoor
