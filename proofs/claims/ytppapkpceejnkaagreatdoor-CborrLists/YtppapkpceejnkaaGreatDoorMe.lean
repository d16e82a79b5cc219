/- The walks of within, zero, Right, Make. The walk of Make. The walks of pointed, unsigned, Format. The walk of strconv.FormatUint to the base 10. What the world must hold beside the table: an error of strconv's. The walk of nat's To. The walks of OfInt and ToInt. -/
import Derived.Test.YtppapkpceejnkaaGreatDoorMd
import Derived.Test.YtppapkpceejnkaaGreatDoorSh
import Derived.Deep.RegionHeld3
import Derived.Lib.LaidTab
import Derived.Lib.AppendIntMem
import Derived.Deep.QuietTactic
import Derived.BigQuiet
import Derived.Lib.Walk
import Derived.Lib.ItoaMem
import Derived.WalkKit
import Derived.WalkSpells
import Derived.WalkLawsBesides
import Derived.BigCall
import Derived.BigGuard
import Derived.Lib.ParseIntBCases
import Derived.Lib.SmallJoins

namespace Go.Proofs.YtppapkpceejnkaaGreatDoor
open Go.RowKit
open Go.Lib (decDigits nDigits)

set_option maxRecDepth 100000 in
theorem within_calls (x L : Int) (w : World) (h0 : 0 ≤ L) (h1 : L ≤ 100000) : Calls Tryz.prog 139 #[.int .i64 x, .int .i64 L] w fun o w' => o = .returned (.bool (decide (-L ≤ x) && decide (x ≤ L))) ∧ w' = w := by
  have hneg : wrap64 (-L) = -L := by unfold wrap64; omega
  by_cases h2 : -L ≤ x
  · by_cases h3 : x ≤ L
    · have d2 : decide (-L ≤ x) = true := by simpa using h2
      have d3 : decide (x ≤ L) = true := by simpa using h3
      go_enter Tryz.func139, Tryz.ntmps139
      go_wp2
      go_ret
      exact ⟨by first | rfl | (rw [d2, d3]; rfl), rfl⟩
    · have d2 : decide (-L ≤ x) = true := by simpa using h2
      have d3 : decide (x ≤ L) = false := by simpa using h3
      go_enter Tryz.func139, Tryz.ntmps139
      go_wp2
      go_ret
      exact ⟨by first | rfl | (rw [d2, d3]; rfl), rfl⟩
  · have d2 : decide (-L ≤ x) = false := by simpa using h2
    go_enter Tryz.func139, Tryz.ntmps139
    go_wp2
    go_ret
    exact ⟨by first | rfl | (rw [d2]; rfl), rfl⟩
theorem within_is (x L : Int) (b : Bool) (w : World) (h0 : 0 ≤ L) (h1 : L ≤ 100000) (hb : (decide (-L ≤ x) && decide (x ≤ L)) = b) : Calls Tryz.prog 139 #[.int .i64 x, .int .i64 L] w fun o w' => o = .returned (.bool b) ∧ w' = w := hb ▸ within_calls x L w h0 h1

set_option maxRecDepth 100000 in
theorem zero_calls (w : World) : Calls Tryz.prog 141 #[] w fun o w' => o = .returned (.agg #[.bool false, .string ⟨#[48]⟩, .int .i64 0]) ∧ Below w.heap.size w w' := by
  go_enter Tryz.func141, Tryz.ntmps141
  go_wp2
  refine bodyPost_ret (v := .agg #[.bool false, .string ⟨#[48]⟩, .int .i64 0]) (by simp [results, Tryz.results141, go_sem]) rfl ?_
  exact ⟨rfl, (Below.refl _ w).alloc (Nat.le_refl _) _⟩
set_option maxRecDepth 100000 in
set_option maxHeartbeats 1000000 in
theorem Right_walk1 (s : ByteArray) (e : Int) (w : World) (b1 b2 b3 b4 : Bool) (h1 : isNat s.data.toList = b1) (h2 : decide ((s.size : Int) ≤ 100) = b2) (h3 : (decide (-100 ≤ e) && decide (e ≤ 100)) = b3)
    (hsuf : b2 = true → ∀ w, Calls Tryz.prog 164 #[.string s, .string ⟨#[48]⟩] w fun e w' => e = .returned (.bool b4) ∧ w' = w) : Calls Tryz.prog 126 #[.agg #[.bool true, .string s, .int .i64 e]] w (BoolP (b1 && b2 && b3 && !b4) w) := by
  have HS := Lib.hid hsuf
  have HD := Lib.hid h2
  have HN := Lib.hid (fun w => natR_calls s b1 w h1)
  have HW := Lib.hid (fun w => within_is e 100 b3 w (by omega) (by omega) h3)
  have A0 := Lib.hid (DecAt.new w true s e)
  have B0 := Lib.hid ((Below.refl _ w).alloc (Nat.le_refl _) (.cells #[.bool true, .string s, .int .i64 e] 24))
  obtain ⟨W0, hW0⟩ : ∃ W0, W0 = w.alloc (.cells #[.bool true, .string s, .int .i64 e] 24) := ⟨_, rfl⟩
  rw [← hW0] at A0 B0
  clear h1 h3 hsuf
  go_enter Tryz.func126, Tryz.ntmps126
  go_wp2_with fail
  rw [← hW0]
  clear hW0
  have A0d := Lib.hid (show DecAt W0.drew w.heap.size true s e from A0.out)
  have B0d := Lib.hid B0.out.drew
  go_region_held3 (fun w' => w'.cell? ⟨w.heap.size, 0, none⟩ = some (.bool true) ∧ w'.cell? ⟨w.heap.size, 1, none⟩ = some (.string s) ∧ w'.cell? ⟨w.heap.size, 2, none⟩ = some (.int .i64 e))
    (first
      | exact ⟨A0d.out.c0, A0d.out.c1, A0d.out.c2⟩
      | exact ⟨(A0d.out.below hb1).c0, (A0d.out.below hb1).c1, (A0d.out.below hb1).c2⟩)
    ((go_at_call 141; refine (zero_calls _).mono ?_; rintro o w1 ⟨rfl, hb1⟩))
  all_goals
    have A1 := Lib.hid (A0d.out.below hb1)
    have B1 := Lib.hid (below_next B0d.out hb1)
    have c1 := A1.out.c1
    clear hb1
    cases b1
    all_goals
      go_wp2_with (first
        | (go_at_call 142; refine (HN.out _).mono ?_; rintro o w2 ⟨rfl, hb2⟩; have A2 := Lib.hid (A1.out.below hb2); have B2 := Lib.hid (below_next B1.out hb2); clear c1 hb2; have k1 := A2.out.c1; have k2 := A2.out.c2; cases b2)
        | (go_at_call 139; refine (HW.out _).mono ?_; rintro o w3 ⟨rfl, rfl⟩; cases b3)
        | (go_at_call 164; refine (HS.out (by trivial) _).mono ?_; rintro o w3 ⟨rfl, rfl⟩))
      all_goals
        go_ret
        first | exact ⟨rfl, B2.out⟩ | exact absurd HD.out (by decide)
set_option maxRecDepth 100000 in
set_option maxHeartbeats 1000000 in
theorem Right_walk2 (s : ByteArray) (e : Int) (w : World) (b1 b2 b3 b4 : Bool) (h1 : isNat s.data.toList = b1) (h2 : decide ((s.size : Int) ≤ 100) = b2) (h3 : (decide (-100 ≤ e) && decide (e ≤ 100)) = b3)
    (hsuf : b2 = true → ∀ w, Calls Tryz.prog 164 #[.string s, .string ⟨#[48]⟩] w fun e w' => e = .returned (.bool b4) ∧ w' = w) (hq : ¬ s.toList = [48]) : Calls Tryz.prog 126 #[.agg #[.bool false, .string s, .int .i64 e]] w (BoolP (b1 && b2 && b3 && !b4) w) := by
  have HS := Lib.hid hsuf
  have HD := Lib.hid h2
  have HN := Lib.hid (fun w => natR_calls s b1 w h1)
  have HW := Lib.hid (fun w => within_is e 100 b3 w (by omega) (by omega) h3)
  have A0 := Lib.hid (DecAt.new w false s e)
  have B0 := Lib.hid ((Below.refl _ w).alloc (Nat.le_refl _) (.cells #[.bool false, .string s, .int .i64 e] 24))
  obtain ⟨W0, hW0⟩ : ∃ W0, W0 = w.alloc (.cells #[.bool false, .string s, .int .i64 e] 24) := ⟨_, rfl⟩
  rw [← hW0] at A0 B0
  clear h1 h3 hsuf
  have hq2 : (s.toList == [48]) = false := beq_eq_false_iff_ne.2 hq
  go_enter Tryz.func126, Tryz.ntmps126
  go_wp2_with fail
  rw [← hW0]
  clear hW0
  have A0d := Lib.hid (show DecAt W0.drew w.heap.size false s e from A0.out)
  have B0d := Lib.hid B0.out.drew
  go_region_held3 (fun w' => w'.cell? ⟨w.heap.size, 0, none⟩ = some (.bool false) ∧ w'.cell? ⟨w.heap.size, 1, none⟩ = some (.string s) ∧ w'.cell? ⟨w.heap.size, 2, none⟩ = some (.int .i64 e))
    (first
      | exact ⟨A0d.out.c0, A0d.out.c1, A0d.out.c2⟩
      | exact ⟨(A0d.out.below hb1).c0, (A0d.out.below hb1).c1, (A0d.out.below hb1).c2⟩)
    ((go_at_call 141; refine (zero_calls _).mono ?_; rintro o w1 ⟨rfl, hb1⟩))
  all_goals
    have A1 := Lib.hid (A0d.out.below hb1)
    have B1 := Lib.hid (below_next B0d.out hb1)
    have c1 := A1.out.c1
    clear hb1
    cases b1
    all_goals
      go_wp2_with (first
        | (go_at_call 142; refine (HN.out _).mono ?_; rintro o w2 ⟨rfl, hb2⟩; have A2 := Lib.hid (A1.out.below hb2); have B2 := Lib.hid (below_next B1.out hb2); clear c1 hb2; have k1 := A2.out.c1; have k2 := A2.out.c2; cases b2)
        | (go_at_call 139; refine (HW.out _).mono ?_; rintro o w3 ⟨rfl, rfl⟩; cases b3)
        | (go_at_call 164; refine (HS.out (by trivial) _).mono ?_; rintro o w3 ⟨rfl, rfl⟩))
      all_goals
        go_ret
        first | exact ⟨rfl, B2.out⟩ | exact absurd HD.out (by decide)
set_option maxRecDepth 100000 in
set_option maxHeartbeats 1000000 in
theorem Right_walk3 (e : Int) (w : World) (b1 b2 b3 b4 : Bool) (h1 : isNat (ByteArray.mk #[48]).data.toList = b1) (h2 : decide (((ByteArray.mk #[48]).size : Int) ≤ 100) = b2) (h3 : (decide (-100 ≤ e) && decide (e ≤ 100)) = b3)
    (hsuf : b2 = true → ∀ w, Calls Tryz.prog 164 #[.string (ByteArray.mk #[48]), .string ⟨#[48]⟩] w fun e w' => e = .returned (.bool b4) ∧ w' = w) (hq : ¬ e = 0) : Calls Tryz.prog 126 #[.agg #[.bool false, .string (ByteArray.mk #[48]), .int .i64 e]] w (BoolP (b1 && b2 && b3 && !b4) w) := by
  have HS := Lib.hid hsuf
  have HD := Lib.hid h2
  have HN := Lib.hid (fun w => natR_calls (ByteArray.mk #[48]) b1 w h1)
  have HW := Lib.hid (fun w => within_is e 100 b3 w (by omega) (by omega) h3)
  have A0 := Lib.hid (DecAt.new w false (ByteArray.mk #[48]) e)
  have B0 := Lib.hid ((Below.refl _ w).alloc (Nat.le_refl _) (.cells #[.bool false, .string (ByteArray.mk #[48]), .int .i64 e] 24))
  obtain ⟨W0, hW0⟩ : ∃ W0, W0 = w.alloc (.cells #[.bool false, .string (ByteArray.mk #[48]), .int .i64 e] 24) := ⟨_, rfl⟩
  rw [← hW0] at A0 B0
  clear h1 h3 hsuf
  have hq2 : (e == 0) = false := by simpa using hq
  go_enter Tryz.func126, Tryz.ntmps126
  go_wp2_with fail
  rw [← hW0]
  clear hW0
  have A0d := Lib.hid (show DecAt W0.drew w.heap.size false (ByteArray.mk #[48]) e from A0.out)
  have B0d := Lib.hid B0.out.drew
  go_region_held3 (fun w' => w'.cell? ⟨w.heap.size, 0, none⟩ = some (.bool false) ∧ w'.cell? ⟨w.heap.size, 1, none⟩ = some (.string (ByteArray.mk #[48])) ∧ w'.cell? ⟨w.heap.size, 2, none⟩ = some (.int .i64 e))
    (first
      | exact ⟨A0d.out.c0, A0d.out.c1, A0d.out.c2⟩
      | exact ⟨(A0d.out.below hb1).c0, (A0d.out.below hb1).c1, (A0d.out.below hb1).c2⟩)
    ((go_at_call 141; refine (zero_calls _).mono ?_; rintro o w1 ⟨rfl, hb1⟩))
  all_goals
    have A1 := Lib.hid (A0d.out.below hb1)
    have B1 := Lib.hid (below_next B0d.out hb1)
    have c1 := A1.out.c1
    clear hb1
    cases b1
    all_goals
      go_wp2_with (first
        | (go_at_call 142; refine (HN.out _).mono ?_; rintro o w2 ⟨rfl, hb2⟩; have A2 := Lib.hid (A1.out.below hb2); have B2 := Lib.hid (below_next B1.out hb2); clear c1 hb2; have k1 := A2.out.c1; have k2 := A2.out.c2; cases b2)
        | (go_at_call 139; refine (HW.out _).mono ?_; rintro o w3 ⟨rfl, rfl⟩; cases b3)
        | (go_at_call 164; refine (HS.out (by trivial) _).mono ?_; rintro o w3 ⟨rfl, rfl⟩))
      all_goals
        go_ret
        first | exact ⟨rfl, B2.out⟩ | exact absurd HD.out (by decide)
theorem suf48 (l : List UInt8) : Lib.hasSuffix l [48] = (l.getLast? == some 48) := by
  rw [Lib.hasSuffix]
  rcases List.eq_nil_or_concat l with rfl | ⟨m, c, rfl⟩
  · rfl
  · have h1 : (m.concat c).getLast? = some c := by simp
    rw [h1]
    by_cases hc : c = 48
    · subst hc
      have : ([48] : List UInt8).isSuffixOf (m.concat 48) = true := by rw [List.isSuffixOf_iff_suffix]; exact ⟨m, by simp⟩
      rw [this]; rfl
    · have : ([48] : List UInt8).isSuffixOf (m.concat c) = false := by
        rw [Bool.eq_false_iff]
        intro h
        rw [List.isSuffixOf_iff_suffix] at h
        obtain ⟨t, ht⟩ := h
        have := congrArg List.getLast? ht
        simp at this
        exact hc this.symm
      rw [this]
      have : (some c == some (48 : UInt8)) = false := by simpa using hc
      rw [this]

theorem right_zero : rightD false [48] 0 = true := by decide
set_option maxRecDepth 100000 in
set_option maxHeartbeats 1000000 in
theorem Right_zero (w : World) : Calls Tryz.prog 126 #[.agg #[.bool false, .string ⟨#[48]⟩, .int .i64 0]] w (BoolP true w) := by
  have A0 := Lib.hid (DecAt.new w false (ByteArray.mk #[48]) 0)
  have B0 := Lib.hid ((Below.refl _ w).alloc (Nat.le_refl _) (.cells #[.bool false, .string ⟨#[48]⟩, .int .i64 0] 24))
  obtain ⟨W0, hW0⟩ : ∃ W0, W0 = w.alloc (.cells #[.bool false, .string ⟨#[48]⟩, .int .i64 0] 24) := ⟨_, rfl⟩
  rw [← hW0] at A0 B0
  go_enter Tryz.func126, Tryz.ntmps126
  go_wp2_with fail
  rw [← hW0]
  clear hW0
  have A0d := Lib.hid (show DecAt W0.drew w.heap.size false (ByteArray.mk #[48]) 0 from A0.out)
  have B0d := Lib.hid B0.out.drew
  go_region_held3 (fun w' => w'.cell? ⟨w.heap.size, 0, none⟩ = some (.bool false) ∧ w'.cell? ⟨w.heap.size, 1, none⟩ = some (.string ⟨#[48]⟩) ∧ w'.cell? ⟨w.heap.size, 2, none⟩ = some (.int .i64 0))
    (first
      | exact ⟨A0d.out.c0, A0d.out.c1, A0d.out.c2⟩
      | exact ⟨(A0d.out.below hb1).c0, (A0d.out.below hb1).c1, (A0d.out.below hb1).c2⟩)
    ((go_at_call 141; refine (zero_calls _).mono ?_; rintro o w1 ⟨rfl, hb1⟩))
  all_goals
    have B1 := Lib.hid (below_next B0d.out hb1)
    clear hb1
    go_wp2
    go_ret
    exact ⟨rfl, B1.out⟩

theorem right_tests (n : Bool) (s : ByteArray) (e : Int) (h : ¬ (n = false ∧ s.data.toList = [48] ∧ e = 0)) :
    rightD n s.data.toList e = (isNat s.data.toList && decide ((s.size : Int) ≤ 100) && (decide (-100 ≤ e) && decide (e ≤ 100)) && !(Lib.hasSuffix s.data.toList [48])) := by
  rw [suf48]
  by_cases h1 : isNat s.data.toList = true
  · by_cases h2 : s.size ≤ 100
    · have d2 : decide ((s.size : Int) ≤ 100) = true := by simp; omega
      by_cases h3 : s.data.toList = [48]
      · rw [h3, rightD_zero]
        have : (isNat [48] && decide ((s.size : Int) ≤ 100) && (decide (-100 ≤ e) && decide (e ≤ 100)) && !(([48] : List UInt8).getLast? == some 48)) = false := by simp
        rw [this, Bool.eq_false_iff]
        intro h4
        simp only [Bool.and_eq_true, decide_eq_true_eq, Bool.not_eq_true'] at h4
        exact h ⟨h4.2, h3, h4.1⟩
      · rw [rightD_more h1 (by rw [← Lib.size_eq]; exact h2) h3, h1, d2]
        rfl
    · have d2 : decide ((s.size : Int) ≤ 100) = false := by simp; omega
      rw [rightD_long (by rw [← Lib.size_eq]; omega), d2]; simp
  · have h1 : isNat s.data.toList = false := by simpa using h1
    rw [rightD_nat h1, h1]; rfl

theorem pRight_calls (n : Bool) (s : ByteArray) (e : Int) (w : World) : Calls Tryz.prog 126 #[.agg #[.bool n, .string s, .int .i64 e]] w (BoolP (rightD n s.data.toList e) w) := by
  by_cases hz : n = false ∧ s.data.toList = [48] ∧ e = 0
  · obtain ⟨rfl, h2, rfl⟩ := hz
    obtain rfl : s = ⟨#[48]⟩ := str_inj h2
    exact Right_zero w
  · rw [right_tests n s e hz]
    have hsuf : decide ((s.size : Int) ≤ 100) = true → ∀ w, Calls Tryz.prog 164 #[.string s, .string ⟨#[48]⟩] w fun e w' => e = .returned (.bool (Lib.hasSuffix s.data.toList [48])) ∧ w' = w := fun h w =>
      Tryz.strings_HasSuffix s ⟨#[48]⟩ w (by simp at h; omega)
    cases n with
    | true => exact Right_walk1 s e w _ _ _ _ rfl rfl rfl hsuf
    | false =>
      by_cases h2 : s.data.toList = [48]
      · obtain rfl : s = ⟨#[48]⟩ := str_inj h2
        exact Right_walk3 e w _ _ _ _ rfl rfl rfl hsuf (fun he => hz ⟨rfl, h2, he⟩)
      · exact Right_walk2 s e w _ _ _ _ rfl rfl rfl hsuf (by rw [Lib.toList_data]; exact h2)
theorem pRight_is (n : Bool) (s : ByteArray) (e : Int) (b : Bool) (w : World) (h : rightD n s.data.toList e = b) : Calls Tryz.prog 126 #[.agg #[.bool n, .string s, .int .i64 e]] w (BoolP b w) := h ▸ pRight_calls n s e w
end Go.Proofs.YtppapkpceejnkaaGreatDoor

namespace Go.Proofs.YtppapkpceejnkaaGreatDoor
open Go.RowKit
open Go.Lib (decDigits nDigits)

def z3 : Obj := .cells #[.bool false, .string ⟨#[]⟩, .int .i64 0] 24
theorem bel3 {w W : World} {B : Nat} (h : Below w.heap.size w W) (hB : w.heap.size ≤ B) (a b c : Value) : Below w.heap.size w (((W.setCell ⟨B, 0, none⟩ a).setCell ⟨B, 1, none⟩ b).setCell ⟨B, 2, none⟩ c) :=
  ((h.setCell (p := ⟨B, 0, none⟩) hB _).setCell (p := ⟨B, 1, none⟩) hB _).setCell (p := ⟨B, 2, none⟩) hB _

theorem decB_zero : decB 0 = ⟨#[48]⟩ := str_inj (by rw [decB_data, Lib.decDigits_one (by omega)]; rfl)
set_option maxRecDepth 100000 in
set_option maxHeartbeats 1000000 in
theorem Make_empty (n : Bool) (e : Int) (w : World) : Calls Tryz.prog 101 #[.bool n, .string ⟨#[]⟩, .int .i64 e] w (DecP none w) := by
  go_enter Tryz.func101, Tryz.ntmps101
  go_wp2
  refine bodyPost_ret (v := .tuple #[.agg #[.bool false, .string ⟨#[]⟩, .int .i64 0], .int .i64 40]) (by simp [results, Tryz.results101, go_sem]) rfl ?_
  exact ⟨rfl, by first | exact (Below.refl _ w).alloc (Nat.le_refl _) _ | exact bel3 ((Below.refl _ w).alloc (Nat.le_refl _) _) (Nat.le_refl _) _ _ _⟩

set_option maxRecDepth 100000 in
set_option maxHeartbeats 1000000 in
theorem Make_far (n : Bool) (s : ByteArray) (e : Int) (w : World) (h0 : ¬ s.toList = []) (h1 : (decide (-1000 ≤ e) && decide (e ≤ 1000)) = false) : Calls Tryz.prog 101 #[.bool n, .string s, .int .i64 e] w (DecP none w) := by
  have HW := Lib.hid (fun w => within_is e 1000 false w (by omega) (by omega) h1)
  have h02 : (s.toList == []) = false := beq_eq_false_iff_ne.2 h0
  have h03 : s.toList.isEmpty = false := by simpa using h0
  clear h1
  go_enter Tryz.func101, Tryz.ntmps101
  go_wp2_with (go_at_call 139; refine (HW.out _).mono ?_; rintro o w3 ⟨rfl, rfl⟩)
  refine bodyPost_ret (v := .tuple #[.agg #[.bool false, .string ⟨#[]⟩, .int .i64 0], .int .i64 40]) (by simp [results, Tryz.results101, go_sem]) rfl ?_
  exact ⟨rfl, by first | exact (Below.refl _ _).alloc (Nat.le_refl _) _ | exact bel3 ((Below.refl _ _).alloc (Nat.le_refl _) _) (Nat.le_refl _) _ _ _⟩

set_option maxRecDepth 100000 in
set_option maxHeartbeats 1000000 in
theorem Make_zero (n : Bool) (s : ByteArray) (e : Int) (w : World) (h0 : ¬ s.toList = []) (h1 : (decide (-1000 ≤ e) && decide (e ≤ 1000)) = true) (h2 : Lib.trimLeftB s.data.toList 48 = []) : Calls Tryz.prog 101 #[.bool n, .string s, .int .i64 e] w (DecP (some (false, 0, 0)) w) := by
  have HW := Lib.hid (fun w => within_is e 1000 true w (by omega) (by omega) h1)
  have HL := Lib.hid (fun w => (Tryz.strings_TrimLeft_one s 48 (by decide) w).mono fun o w' (h : _ ∧ _) => (show o = .returned (.string ⟨#[]⟩) ∧ w' = w from ⟨by rw [h.1, h2], h.2⟩))
  have A0 := Lib.hid (DecAt.new w false ⟨#[]⟩ 0)
  have B0 := Lib.hid ((Below.refl _ w).alloc (Nat.le_refl _) (.cells #[.bool false, .string ⟨#[]⟩, .int .i64 0] 24))
  have h02 : (s.toList == []) = false := beq_eq_false_iff_ne.2 h0
  have h03 : s.toList.isEmpty = false := by simpa using h0
  clear h1 h2
  go_enter Tryz.func101, Tryz.ntmps101
  go_wp2_with (first
    | (go_at_call 139; refine (HW.out _).mono ?_; rintro o w3 ⟨rfl, rfl⟩)
    | (go_at_call 140; refine (HL.out _).mono ?_; rintro o w3 ⟨rfl, rfl⟩)
    | (go_at_call 141; refine (zero_calls _).mono ?_; rintro o w4 ⟨rfl, hb4⟩; have A4 := Lib.hid (A0.out.below hb4); have B4 := Lib.hid (below_next B0.out hb4); clear hb4; have c0 := A4.out.c0; have c1 := A4.out.c1; have c2 := A4.out.c2; have f0 := A4.out.f 0; have f1 := A4.out.f 1; have f2 := A4.out.f 2; have hz := A4.out.lt))
  refine bodyPost_ret (v := .tuple #[.agg #[.bool false, .string ⟨#[48]⟩, .int .i64 0], .int .i64 0]) (by simp [results, Tryz.results101, go_sem, c0, c1, c2]) rfl ?_
  exact ⟨by rw [dS, decB_zero]; rfl, bel3 B4.out (Nat.le_refl _) _ _ _⟩

set_option maxRecDepth 100000 in
set_option maxHeartbeats 1000000 in
theorem Make_unnat (n : Bool) (s nt : ByteArray) (e : Int) (w : World) (h0 : ¬ s.toList = []) (h1 : (decide (-1000 ≤ e) && decide (e ≤ 1000)) = true) (h2 : nt = ⟨(Lib.trimLeftB s.data.toList 48).toArray⟩) (h3 : ¬ nt.toList = []) (h4 : isNat nt.data.toList = false) : Calls Tryz.prog 101 #[.bool n, .string s, .int .i64 e] w (DecP none w) := by
  have HW := Lib.hid (fun w => within_is e 1000 true w (by omega) (by omega) h1)
  have HL := Lib.hid (fun w => (Tryz.strings_TrimLeft_one s 48 (by decide) w).mono fun o w' (h : _ ∧ _) => (show o = .returned (.string nt) ∧ w' = w from ⟨by rw [h.1, h2], h.2⟩))
  have HN := Lib.hid (fun w => natR_calls nt false w h4)
  have A0 := Lib.hid (DecAt.new w false ⟨#[]⟩ 0)
  have B0 := Lib.hid ((Below.refl _ w).alloc (Nat.le_refl _) (.cells #[.bool false, .string ⟨#[]⟩, .int .i64 0] 24))
  have h02 : (s.toList == []) = false := beq_eq_false_iff_ne.2 h0
  have h03 : s.toList.isEmpty = false := by simpa using h0
  have h32 : (nt.toList == []) = false := beq_eq_false_iff_ne.2 h3
  have h33 : nt.toList.isEmpty = false := by simpa using h3
  clear h1 h2 h4
  go_enter Tryz.func101, Tryz.ntmps101
  go_wp2_with (first
    | (go_at_call 139; refine (HW.out _).mono ?_; rintro o w3 ⟨rfl, rfl⟩)
    | (go_at_call 140; refine (HL.out _).mono ?_; rintro o w3 ⟨rfl, rfl⟩)
    | (go_at_call 142; refine (HN.out _).mono ?_; rintro o w4 ⟨rfl, hb4⟩; have A4 := Lib.hid (A0.out.below hb4); have B4 := Lib.hid (below_next B0.out hb4); clear hb4; have c0 := A4.out.c0; have c1 := A4.out.c1; have c2 := A4.out.c2; have f0 := A4.out.f 0; have f1 := A4.out.f 1; have f2 := A4.out.f 2; have hz := A4.out.lt))
  refine bodyPost_ret (v := .tuple #[.agg #[.bool false, .string ⟨#[]⟩, .int .i64 0], .int .i64 40]) (by simp [results, Tryz.results101, go_sem, c0, c1, c2]) rfl ?_
  exact ⟨rfl, bel3 B4.out (Nat.le_refl _) _ _ _⟩

set_option maxRecDepth 100000 in
set_option maxHeartbeats 1000000 in
theorem Make_full (n : Bool) (s nt kp : ByteArray) (e : Int) (b : Bool) (w : World) (h0 : ¬ s.toList = []) (h1 : (decide (-1000 ≤ e) && decide (e ≤ 1000)) = true) (h2 : nt = ⟨(Lib.trimLeftB s.data.toList 48).toArray⟩) (h3 : ¬ nt.toList = []) (h4 : isNat nt.data.toList = true)
    (h5 : kp = ⟨(Lib.trimRightB nt.data.toList 48).toArray⟩) (hl : nt.size ≤ 400) (hk : kp.size ≤ nt.size) (hb : rightD n kp.data.toList (e + nt.size - kp.size) = b) :
    Calls Tryz.prog 101 #[.bool n, .string s, .int .i64 e] w fun o w' => o = .returned (.tuple (if b = true then #[.agg #[.bool n, .string kp, .int .i64 (e + nt.size - kp.size)], .int .i64 0] else #[.agg #[.bool false, .string ⟨#[]⟩, .int .i64 0], .int .i64 40])) ∧ Below w.heap.size w w' := by
  have HW := Lib.hid (fun w => within_is e 1000 true w (by omega) (by omega) h1)
  have HL := Lib.hid (fun w => (Tryz.strings_TrimLeft_one s 48 (by decide) w).mono fun o w' (h : _ ∧ _) => (show o = .returned (.string nt) ∧ w' = w from ⟨by rw [h.1, h2], h.2⟩))
  have HR := Lib.hid (fun w => (Tryz.strings_TrimRight_one nt 48 (by decide) w (by omega)).mono fun o w' (h : _ ∧ _) => (show o = .returned (.string kp) ∧ w' = w from ⟨by rw [h.1, h5], h.2⟩))
  have HN := Lib.hid (fun w => natR_calls nt true w h4)
  have HX := Lib.hid (fun w => pRight_is n kp _ b w hb)
  have A0 := Lib.hid (DecAt.new w false ⟨#[]⟩ 0)
  have B0 := Lib.hid ((Below.refl _ w).alloc (Nat.le_refl _) (.cells #[.bool false, .string ⟨#[]⟩, .int .i64 0] 24))
  have h02 : (s.toList == []) = false := beq_eq_false_iff_ne.2 h0
  have h03 : s.toList.isEmpty = false := by simpa using h0
  have h32 : (nt.toList == []) = false := beq_eq_false_iff_ne.2 h3
  have h33 : nt.toList.isEmpty = false := by simpa using h3
  have he1 : -1000 ≤ e := by simp only [Bool.and_eq_true, decide_eq_true_eq] at h1; exact h1.1
  have he2 : e ≤ 1000 := by simp only [Bool.and_eq_true, decide_eq_true_eq] at h1; exact h1.2
  clear h1 h2 h4 h5 hb
  go_enter Tryz.func101, Tryz.ntmps101
  go_wp2_with (first
    | (go_at_call 139; refine (HW.out _).mono ?_; rintro o w3 ⟨rfl, rfl⟩)
    | (go_at_call 140; refine (HL.out _).mono ?_; rintro o w3 ⟨rfl, rfl⟩)
    | (go_at_call 143; refine (HR.out _).mono ?_; rintro o w3 ⟨rfl, rfl⟩)
    | (go_at_call 142; refine (HN.out _).mono ?_; rintro o w4 ⟨rfl, hb4⟩; have A4 := Lib.hid (A0.out.below hb4); have B4 := Lib.hid (below_next B0.out hb4); clear hb4))
  have A5 := Lib.hid (A4.out.alloc (.cells #[.bool n, .string kp, .int .i64 (e + nt.size - kp.size)] 24))
  have D5 := Lib.hid (DecAt.new w3 n kp (e + nt.size - kp.size))
  have B5 := Lib.hid (B4.out.alloc B4.out.size (.cells #[.bool n, .string kp, .int .i64 (e + nt.size - kp.size)] 24))
  refine (HX.out _).mono ?_
  rintro o w6 ⟨rfl, hb6⟩
  have A6 := Lib.hid (A5.out.below hb6)
  have D6 := Lib.hid (D5.out.below hb6)
  have B6 := Lib.hid (below_next B5.out hb6)
  clear hb6 A0 B0 A4 B4 A5 D5 B5
  have c0 := A6.out.c0
  have c1 := A6.out.c1
  have c2 := A6.out.c2
  have f0 := A6.out.f 0
  have f1 := A6.out.f 1
  have f2 := A6.out.f 2
  have hz := A6.out.lt
  have d0 := D6.out.c0
  have d1 := D6.out.c1
  have d2 := D6.out.c2
  cases b
  · go_wp2
    refine bodyPost_ret (v := .tuple #[.agg #[.bool false, .string ⟨#[]⟩, .int .i64 0], .int .i64 40]) (by simp [results, Tryz.results101, go_sem, c0, c1, c2]) rfl ?_
    exact ⟨rfl, bel3 B6.out (Nat.le_refl _) _ _ _⟩
  · go_wp2
    refine bodyPost_ret (v := .tuple #[.agg #[.bool n, .string kp, .int .i64 (e + nt.size - kp.size)], .int .i64 0]) (by simp [results, Tryz.results101, go_sem, c0, c1, c2]) rfl ?_
    exact ⟨rfl, bel3 B6.out (Nat.le_refl _) _ _ _⟩

theorem mk_data (l : List UInt8) : (ByteArray.mk l.toArray).data.toList = l := by simp
theorem ne_toList {s : ByteArray} (h : s.data.toList ≠ []) : ¬ s.toList = [] := by rw [Lib.toList_data]; exact h
theorem pMake_calls (n : Bool) (s : ByteArray) (e : Int) (w : World) (hs : s.size ≤ 400) : Calls Tryz.prog 101 #[.bool n, .string s, .int .i64 e] w (DecP (makeR n s.data.toList e) w) := by
  have hl : s.data.toList.length ≤ 400 := by rw [← Lib.size_eq]; exact hs
  by_cases h0 : s.data.toList = []
  · obtain rfl : s = ⟨#[]⟩ := str_inj h0
    rw [makeR_bad (.inl h0)]
    exact Make_empty n e w
  cases h1 : (decide (-1000 ≤ e) && decide (e ≤ 1000)) with
  | false =>
    rw [makeR_bad (by
      simp only [Bool.and_eq_false_iff, decide_eq_false_iff_not] at h1
      rcases h1 with h | h
      · exact .inr (.inr (.inl (by omega)))
      · exact .inr (.inr (.inr (.inl (by omega)))))]
    exact Make_far n s e w (ne_toList h0) h1
  | true =>
    have he := h1
    simp only [Bool.and_eq_true, decide_eq_true_eq] at he
    obtain ⟨m1, m2, m3⟩ := make_steps (n := n) hl h0 he.1 he.2 rfl rfl
    by_cases hz : Lib.trimLeftB s.data.toList 48 = []
    · rw [m1 hz]
      exact Make_zero n s e w (ne_toList h0) h1 hz
    · obtain ⟨nt, hnt⟩ : ∃ nt : ByteArray, nt = ⟨(Lib.trimLeftB s.data.toList 48).toArray⟩ := ⟨_, rfl⟩
      have hd : nt.data.toList = Lib.trimLeftB s.data.toList 48 := by rw [hnt, mk_data]
      rw [← hd] at hz m2 m3
      cases h4 : isNat nt.data.toList with
      | false =>
        rw [m2 hz h4]
        exact Make_unnat n s nt e w (ne_toList h0) h1 hnt (ne_toList hz) h4
      | true =>
        obtain ⟨kp, hkp⟩ : ∃ kp : ByteArray, kp = ⟨(Lib.trimRightB nt.data.toList 48).toArray⟩ := ⟨_, rfl⟩
        have hkd : kp.data.toList = Lib.trimRightB nt.data.toList 48 := by rw [hkp, mk_data]
        obtain ⟨q1, q2, q3, q4, q5⟩ := m3 h4
        rw [← hkd, ← Lib.size_eq, ← Lib.size_eq] at q4 q5
        rw [← hkd, ← Lib.size_eq, ← Lib.size_eq] at q1
        have hnl : nt.size ≤ 400 := (nat_digs h4).2
        cases hb : rightD n kp.data.toList (e + nt.size - kp.size) with
        | false =>
          rw [q5 hb]
          exact Make_full n s nt kp e false w (ne_toList h0) h1 hnt (ne_toList hz) h4 hkp hnl q1 hb
        | true =>
          rw [(q4 hb).1]
          have hc : decB (dv kp.data.toList) = kp := str_inj (by rw [decB_data]; exact (q4 hb).2)
          refine (Make_full n s nt kp e true w (ne_toList h0) h1 hnt (ne_toList hz) h4 hkp hnl q1 hb).mono ?_
          rintro o w' ⟨rfl, hw⟩
          exact ⟨by simp only [dN, dS, dX, decE, hc]; rfl, hw⟩
end Go.Proofs.YtppapkpceejnkaaGreatDoor

namespace Go.Proofs.YtppapkpceejnkaaGreatDoor
open Go.RowKit
open Go.Lib (decDigits nDigits)

theorem itoa_numB (x : Int) : (ByteArray.mk (Lib.itoa x).toArray) = numB x := str_inj (by
  rw [mk_data, Lib.itoa, numB]
  by_cases h : x < 0
  · rw [if_pos h, if_pos h, app_data, decB_data]; rfl
  · rw [if_neg h, if_neg h, decB_data, show x.natAbs = x.toNat from by omega])
theorem itoa_calls (x : Int) (w : World) (h0 : -100000 ≤ x) (h1 : x ≤ 100000) (hT : Tab w) : Calls Tryz.prog 255 #[.int .i64 x] w fun o w' => o = .returned (.string (numB x)) ∧ Below w.heap.size w w' := by
  refine (Tryz.strconv_Itoa x (by omega) (by omega) w hT).mono ?_
  rintro o w' ⟨rfl, k, os, rfl⟩
  exact ⟨by rw [itoa_numB], Lib.below_grow _ w (Nat.le_refl _) k os⟩
theorem rep_zer (c : Nat) : (ByteArray.mk (Lib.repeatL [48] c).toArray) = zerB c := by
  have : Lib.repeatL [48] c = List.replicate c 48 := by
    have := Lib.repeatL_replicate 48 1 c
    rwa [Nat.mul_one] at this
  rw [this]; rfl
theorem zer_calls (c : Nat) (w : World) (hc : c ≤ 100000) : Calls Tryz.prog 173 #[.string ⟨#[48]⟩, .int .i64 (c : Int)] w fun o w' => o = .returned (.string (zerB c)) ∧ Below w.heap.size w w' := by
  refine (Tryz.strings_Repeat ⟨#[48]⟩ c w (by omega) (by simp [ByteArray.size]; omega)).mono ?_
  rintro o w' ⟨rfl, hb⟩
  exact ⟨by rw [← rep_zer], hb⟩
theorem zer_eq (x : Int) (c : Nat) (w : World) (hx : x = (c : Int)) (hc : c ≤ 100000) : Calls Tryz.prog 173 #[.string ⟨#[48]⟩, .int .i64 x] w fun o w' => o = .returned (.string (zerB c)) ∧ Below w.heap.size w w' := hx ▸ zer_calls c w hc

/-- A point ahead of the last k bytes. -/
def ptB (s : ByteArray) (k : Nat) : ByteArray := s.extract 0 (s.size - k) ++ ⟨#[46]⟩ ++ s.extract (s.size - k) s.size

theorem fmtB_size {n : Bool} {s : ByteArray} {e : Int} (h : rightD n s.data.toList e = true) : (fmtB s e).size ≤ 300 := by
  obtain ⟨_, hl, h1, h2⟩ := right_parts h
  rw [← Lib.size_eq] at hl
  have hn := numB_size (x := e) (by omega) (by omega)
  rw [fmtB]
  split
  · rw [ByteArray.size_append, ByteArray.size_append, show (ByteArray.mk #[101]).size = 1 from rfl]; omega
  · split
    · rw [ByteArray.size_append, zerB_size]; omega
    · rw [ByteArray.size_append, ByteArray.size_append, ByteArray.size_extract, ByteArray.size_extract, ByteArray.size_append, zerB_size, show (ByteArray.mk #[46]).size = 1 from rfl]; omega
theorem empty_app (s : ByteArray) : (ByteArray.mk #[]) ++ s = s := str_inj (by rw [app_data]; rfl)

end Go.Proofs.YtppapkpceejnkaaGreatDoor

namespace Go.Proofs.YtppapkpceejnkaaGreatDoor
open Go.Shelf Go.RowKit Go.Sort Go.Lib

theorem holds_zero0 (w : World) (T : TypeId) (nd : Nat) (hs : nd ≤ 24) : Holds (fun (b : UInt8) => Value.int .u8 (b.toNat : Int)) (w.alloc (.cells Lib.zeros24 T)) w.heap.size 0 (Array.replicate nd (0 : UInt8)) := fun j hj => by
  have hj' : j < nd := by simpa using hj
  refine ⟨?_, World.frozen?_alloc_new _ _ _ _⟩
  rw [World.cell?_alloc_new, Lib.zeros24_at _ (by omega), getElem!_pos _ j hj]
  simp

theorem below_putRow {B : Nat} {w : World} (o : Obj) (off : Nat) (dk : Array UInt8) (k : Nat) (hB : B ≤ w.heap.size) : Below B w ((putRow (fun (b : UInt8) => Value.int .u8 (b.toNat : Int)) (w.alloc o) w.heap.size off dk).drewN k) := by
  rw [alloc_eq_grow]
  obtain ⟨os', hs, e⟩ := putRow_grow_new (fun (b : UInt8) => Value.int .u8 (b.toNat : Int)) w #[o] w.heap.size off dk (Nat.le_refl _)
  rw [e]
  have h : Below B w (grow w os') := ⟨rfl, rfl, rfl, by simp [grow], fun i hi => by simp only [grow]; rw [Array.getElem?_append_left (by omega)]⟩
  exact below_drewN h k

set_option maxRecDepth 100000 in
set_option maxHeartbeats 2000000 in
theorem fmtU_calls (u : Nat) (hu64 : u < 18446744073709551616) (w : World) (htab : Tab w) :
    Calls Tryz.prog 180 #[.int .u64 (u : Int), .int .i64 10] w fun e w' => e = .returned (.string ⟨(Lib.decDigits u).toArray⟩) ∧ Below w.heap.size w w' := by
  by_cases hs : u < 100
  · go_enter Tryz.func180, Tryz.ntmps180
    go_wp2_with (go_at_call 209; refine (Tryz.internal_strconv_small u hs _).mono ?_; rintro e w' ⟨rfl, rfl⟩)
    go_ret
    exact ⟨rfl, Below.refl _ _⟩
  · have hu1 : 1 ≤ u := by omega
    have hnd20 : Lib.nDigits u ≤ 20 := by have := Lib.numDigits_eq u hu1 hu64; split at this <;> omega
    have hal : Tryz.prog.arrayLen 274 = 24 := by simp [Program.arrayLen, Tryz.underlying274]
    have hsl1 : ∀ W, (Instr.sliceAt 274 (.pointer (some ⟨w.heap.size, 0, none⟩)) none (some (.int .i64 (Lib.nDigits u : Int))) none).run Tryz.prog W = .ok (.slice (some ⟨w.heap.size, 0, none⟩) (Lib.nDigits u) 24) W := fun W => by
      rw [run_sliceAt_array_h W 274 ⟨w.heap.size, 0, none⟩ (by simp [Program.arrayLen, Program.elem, Tryz.underlying274]) .i64 (Lib.nDigits u : Int) (by omega) (by rw [hal]; omega)]
      go_simp
    have hH0 := holds_zero0 w 274 (Lib.nDigits u) (by omega)
    have hfmt := Tryz.internal_strconv_formatBase10 w.heap.size 0 24 u (Array.replicate (Lib.nDigits u) 0) (w.alloc (.cells Lib.zeros24 274)) hH0 (by rw [Array.size_replicate]; exact Lib.lt_pow_nDigits u) hu64 (by rw [Array.size_replicate]; omega)
    rw [Array.size_replicate] at hfmt
    have HH0 := Lib.hid hH0
    have HF := Lib.hid hfmt
    have HT := Lib.hid htab
    clear hH0 hal hfmt htab
    go_enter Tryz.func180, Tryz.ntmps180
    go_wp2_with (first
      | (go_at_call 210; refine (Tryz.internal_strconv_numDigits u hu1 hu64 _ (Lib.tabIs_alloc HT.out _)).mono ?_; rintro e w' ⟨rfl, rfl⟩))
    refine HF.out.mono ?_
    rintro e w' ⟨rfl, k, v', dk, rfl, hF⟩
    have hcv : (convert 45 9 (.slice (some ⟨w.heap.size, 0, none⟩) (Lib.nDigits u) 24)).run Tryz.prog ((putRow (fun (b : UInt8) => Value.int .u8 (b.toNat : Int)) (w.alloc (.cells Lib.zeros24 274)) w.heap.size 0 dk).drewN k) = .ok (.string ⟨(Lib.decDigits u).toArray⟩) ((putRow (fun (b : UInt8) => Value.int .u8 (b.toNat : Int)) (w.alloc (.cells Lib.zeros24 274)) w.heap.size 0 dk).drewN k) := by
      have h := run_convert_bytes_back (P := Tryz.prog) ((putRow (fun (b : UInt8) => Value.int .u8 (b.toNat : Int)) (w.alloc (.cells Lib.zeros24 274)) w.heap.size 0 dk).drewN k) 45 9 5 ⟨w.heap.size, 0, none⟩ 24 (Lib.decDigits u) Tryz.underlying45 Tryz.underlying5 Tryz.underlying9 (fun j hj => by
        rw [Lib.row_is_numeral hF j hj, Lib.add_plain, World.cell?_drewN]
        exact cell?_putRow (fun (b : UInt8) => Value.int .u8 (b.toNat : Int)) _ w.heap.size 0 _ dk HH0.out (by rw [hF.size, Array.size_replicate]) j (by rw [hF.size]; rw [Lib.decDigits_length] at hj; exact hj))
      rw [Lib.decDigits_length] at h
      exact h
    go_wp2
    go_ret
    exact ⟨rfl, below_putRow _ _ _ _ (Nat.le_refl _)⟩

set_option maxHeartbeats 400000 in
/-- strconv.FormatUint(n, 10): the digits of n. -/
theorem formatUint_calls (u : Nat) (hu64 : u < 18446744073709551616) (w : World) (htab : Tab w) :
    Calls Tryz.prog 138 #[.int .u64 (u : Int), .int .i64 10] w fun e w' => e = .returned (.string ⟨(Lib.decDigits u).toArray⟩) ∧ Below w.heap.size w w' := by
  have HT := Lib.hid htab
  clear htab
  go_enter Tryz.func138, Tryz.ntmps138
  go_wp2_with (go_at_call 180; refine (fmtU_calls u hu64 _ HT.out).mono ?_; rintro e w' ⟨rfl, hb⟩)
  go_ret
  exact ⟨rfl, hb⟩

set_option maxRecDepth 100000 in
theorem natOf_calls (u : Nat) (hu64 : u < 18446744073709551616) (w : World) (htab : Tab w) : Calls Tryz.prog 100 #[.int .u64 (u : Int)] w fun e w' => e = .returned (.string (decB u)) ∧ Below w.heap.size w w' := by
  have HT := Lib.hid htab
  clear htab
  go_enter Tryz.func100, Tryz.ntmps100
  go_wp2_with (go_at_call 138; refine (formatUint_calls u hu64 _ HT.out).mono ?_; rintro e w' ⟨rfl, hb⟩)
  go_ret
  exact ⟨rfl, hb⟩
end Go.Proofs.YtppapkpceejnkaaGreatDoor

namespace Go.Proofs.YtppapkpceejnkaaGreatDoor
open Go.RowKit
/-- The variable of strconv's second error holds an error. -/
def ErrR (w : World) : Prop := ∃ te pe, w.cell? ⟨10, 0, none⟩ = some (.iface te pe)
theorem ErrR.lt {w : World} (h : ErrR w) : 10 < w.heap.size := by
  obtain ⟨te, pe, h⟩ := h
  rcases Nat.lt_or_ge 10 w.heap.size with h1 | h1
  · exact h1
  · exfalso
    have : w.heap[10]? = none := Array.getElem?_eq_none h1
    simp [World.cell?, this] at h
theorem ErrR.below {w w' : World} (h : ErrR w) (hb : Below w.heap.size w w') : ErrR w' := by
  have hl := h.lt
  obtain ⟨te, pe, h⟩ := h
  exact ⟨te, pe, (hb.cell (p := ⟨10, 0, none⟩) hl).trans h⟩

def ErrT (w : World) : Prop := ErrR w
theorem ErrT.below {w w' : World} (h : ErrT w) (hb : Below w.heap.size w w') : ErrT w' := ErrR.below h hb
end Go.Proofs.YtppapkpceejnkaaGreatDoor

namespace Go.Proofs.YtppapkpceejnkaaGreatDoor
open Go.RowKit
open Go.Lib (decDigits nDigits)

theorem parse_m (l : List UInt8) : l.all isD = true → ∀ acc, acc ≤ 18446744073709551615 → Lib.parseUintM 18446744073709551615 acc l = if l.foldl (fun a c => a * 10 + (c.toNat - 48)) acc ≤ 18446744073709551615 then .ok (l.foldl (fun a c => a * 10 + (c.toNat - 48)) acc) else .range := by
  have mono : ∀ (m : List UInt8) (a : Nat), a ≤ m.foldl (fun a c => a * 10 + (c.toNat - 48)) a := by
    intro m
    induction m with
    | nil => intro a; exact Nat.le_refl _
    | cons c m ih => intro a; rw [List.foldl_cons]; have := ih (a * 10 + (c.toNat - 48)); omega
  induction l with
  | nil => intro _ acc h; rw [Lib.parseUintM, List.foldl_nil, if_pos h]
  | cons c l ih =>
    intro h acc ha
    rw [List.all_cons, Bool.and_eq_true] at h
    have hc := (isD_iff c).1 h.1
    have hm := mono l (acc * 10 + (c.toNat - 48))
    rw [Lib.parseUintM, if_pos hc, List.foldl_cons]
    by_cases h1 : 1844674407370955162 ≤ acc
    · rw [if_pos h1, if_neg (by omega)]
    · rw [if_neg h1]
      by_cases h2 : 18446744073709551615 < acc * 10 + (c.toNat - 48)
      · rw [if_pos h2, if_neg (by omega)]
      · rw [if_neg h2, ih h.2 _ (by omega)]

theorem parse_nat {l : List UInt8} (h : isNat l = true) : Lib.parseUintB 64 l = if dv l ≤ 18446744073709551615 then .ok (dv l) else .range := by
  obtain ⟨h1, _, _, h4⟩ := isNat_parts h
  rw [Lib.parseUintB, if_neg h1]
  exact parse_m l h4 0 (by omega)

set_option maxRecDepth 100000 in
set_option maxHeartbeats 1000000 in
theorem To_yes (s : ByteArray) (w : World) (h : isNat s.data.toList = true) (hs : s.size ≤ 1000) (hlt : dv s.data.toList < 18446744073709551616) : Calls Tryz.prog 172 #[.string s] w fun e w' => e = .returned (.tuple #[.int .u64 (dv s.data.toList : Nat), .bool true]) ∧ Below w.heap.size w w' := by
  have HP := Lib.hid (show Lib.parseUintB 64 s.data.toList = .ok (dv s.data.toList) by rw [parse_nat h, if_pos (by omega)])
  have HA := Lib.hid h
  clear h
  go_enter Tryz.func172, Tryz.ntmps172
  go_wp2_with (first
    | (go_at_call 142; refine (Right_yes _ _ HA.out).mono ?_; rintro e w1 ⟨rfl, hb1⟩; have HB1 := Lib.hid hb1; clear hb1)
    | (go_at_call 202; refine (Tryz.strconv_ParseUint_10_at64_ok s (by omega) _ HP.out _).mono ?_; rintro e w2 ⟨rfl, hw2⟩; have HW2 := Lib.hid hw2; clear hw2))
  go_ret2
  refine ⟨rfl, ?_⟩
  rcases HW2.out with rfl | rfl
  · exact HB1.out
  · exact HB1.out.trans (Joins.below_bytesWorld _ _ _ _ HB1.out.size)
set_option maxRecDepth 100000 in
set_option maxHeartbeats 1000000 in
theorem To_no (s : ByteArray) (w : World) (h : isNat s.data.toList = false) : Calls Tryz.prog 172 #[.string s] w fun e w' => e = .returned (.tuple #[.int .u64 0, .bool false]) ∧ Below w.heap.size w w' := by
  have HA := Lib.hid h
  clear h
  go_enter Tryz.func172, Tryz.ntmps172
  go_wp2_with (go_at_call 142; refine (Right_no _ _ HA.out).mono ?_; rintro e w1 ⟨rfl, hb1⟩)
  go_ret2
  exact ⟨rfl, hb1⟩

set_option maxRecDepth 100000 in
set_option maxHeartbeats 1000000 in
theorem To_big (s : ByteArray) (w : World) (h : isNat s.data.toList = true) (hs : s.size ≤ 1000) (hge : 18446744073709551616 ≤ dv s.data.toList) (he : ErrR w) : Calls Tryz.prog 172 #[.string s] w fun e w' => e = .returned (.tuple #[.int .u64 0, .bool false]) ∧ Below w.heap.size w w' := by
  have HP := Lib.hid (show Lib.parseUintB 64 s.data.toList = .range by rw [parse_nat h, if_neg (by omega)])
  have HA := Lib.hid h
  have HE := Lib.hid he
  have hcall : ∀ w, ErrR w → Calls Tryz.prog 202 #[.string s, .int .i64 10, .int .i64 64] w fun e w' => ∃ N, e = .returned (.tuple #[.int .u64 18446744073709551615, .iface 304 (.pointer (some ⟨N, 0, none⟩))]) ∧ Below w.heap.size w w' := fun w ⟨te, pe, hc⟩ =>
    (Tryz.strconv_ParseUint_10_at64_range s (by omega) HP.out _ w hc (.inr ⟨te, pe, rfl⟩)).mono fun e w' ⟨N, h1, _, _, h4⟩ => ⟨N, h1, h4⟩
  have HC := Lib.hid hcall
  clear h hge he hcall
  go_enter Tryz.func172, Tryz.ntmps172
  go_wp2_with (first
    | (go_at_call 142; refine (Right_yes _ _ HA.out).mono ?_; rintro e w1 ⟨rfl, hb1⟩; have HB1 := Lib.hid hb1; have HE1 := Lib.hid (HE.out.below hb1); clear hb1)
    | (go_at_call 202; refine (HC.out _ HE1.out).mono ?_; rintro e w2 ⟨N, rfl, hb2⟩))
  go_ret2
  exact ⟨rfl, HB1.out.trans (hb2.mono HB1.out.size)⟩
end Go.Proofs.YtppapkpceejnkaaGreatDoor

namespace Go.Proofs.YtppapkpceejnkaaGreatDoor
open Go.RowKit
open Go.Lib (decDigits nDigits)

theorem nat_zeros1 {n : Bool} {l : List UInt8} {k : Nat} (h : rightD n l (k : Int) = true) (hk : k ≤ 100) : isNat (l ++ List.replicate k 48) = true := by
  obtain ⟨h1, h2, _, _⟩ := right_parts h
  obtain ⟨g1, g2, g3, g4⟩ := isNat_parts h1
  by_cases hz : l = [48]
  · subst hz
    rw [rightD_zero] at h
    simp at h
    obtain ⟨rfl, _⟩ := h
    decide
  · have hh : l.head? ≠ some 48 := by
      rcases g3 with g | g
      · exact g
      · exact absurd g hz
    have hne : (l ++ List.replicate k 48).isEmpty = false := by
      cases l with
      | nil => exact absurd rfl g1
      | cons c l => rfl
    rw [isNat, hne, List.all_append, g4, List.length_append, List.length_replicate]
    have h5 : ((l ++ List.replicate k 48).head? != some 48) = true := by
      cases l with
      | nil => exact absurd rfl g1
      | cons c l =>
        simp only [List.cons_append, List.head?_cons] at hh ⊢
        simpa using hh
    have h6 : (List.replicate k (48 : UInt8)).all isD = true := by
      rw [List.all_replicate]
      split
      · rfl
      · decide
    rw [h5, h6]
    simp
    omega


set_option maxRecDepth 100000 in
set_option maxHeartbeats 2000000 in
theorem pOfInt_calls (n : Bool) (k : Nat) (w : World) (hk : k < 18446744073709551616) (hT : Tab w) : Calls Tryz.prog 98 #[.bool n, .int .u64 (k : Int)] w (ValP (makeR n (decDigits k) 0) w) := by
  obtain ⟨R, hR⟩ : ∃ R, R = makeR n (decDigits k) 0 := ⟨_, rfl⟩
  have HMk : Hid (∀ w, Calls Tryz.prog 101 #[.bool n, .string (decB k), .int .i64 0] w (DecP R w)) := Lib.hid (fun w => by
    have := pMake_calls n (decB k) 0 w (by have := decB_size hk; omega)
    rw [decB_data, ← hR] at this
    exact this)
  have HOf := Lib.hid (natOf_calls k hk (w.alloc (.cells #[.bool false, .string ⟨#[]⟩, .int .i64 0] 24)) (hT.below ((Below.refl _ w).alloc (Nat.le_refl _) _)))
  have A0 := Lib.hid (DecAt.new w false ⟨#[]⟩ 0)
  have B0 := Lib.hid ((Below.refl _ w).alloc (Nat.le_refl _) (.cells #[.bool false, .string ⟨#[]⟩, .int .i64 0] 24))
  rw [← hR]
  clear hR hk hT
  go_enter Tryz.func98, Tryz.ntmps98
  go_wp2_with fail
  refine HOf.out.mono ?_
  rintro o w1 ⟨rfl, hb1⟩
  have A1 := Lib.hid (A0.out.below hb1)
  have B1 := Lib.hid (below_next B0.out hb1)
  clear hb1
  go_wp2_with fail
  refine (HMk.out _).mono ?_
  rintro o w2 ⟨rfl, hb2⟩
  have A2 := Lib.hid ((A1.out.below hb2).alloc (.cells #[.bool (dN R), .string (dS R), .int .i64 (dX R)] 24))
  have B2 := Lib.hid ((below_next B1.out hb2).alloc (below_next B1.out hb2).size (.cells #[.bool (dN R), .string (dS R), .int .i64 (dX R)] 24))
  clear hb2
  have c0 := A2.out.c0
  have c1 := A2.out.c1
  have c2 := A2.out.c2
  have f0 := A2.out.f 0
  have f1 := A2.out.f 1
  have f2 := A2.out.f 2
  have hz := A2.out.lt
  go_wp2
  refine bodyPost_ret (v := .agg #[.bool (dN R), .string (dS R), .int .i64 (dX R)]) (by simp [results, Tryz.results98, go_sem, c0, c1, c2]) rfl ?_
  exact ⟨rfl, bel3 B2.out (Nat.le_refl _) _ _ _⟩

set_option maxRecDepth 100000 in
set_option maxHeartbeats 2000000 in
theorem ToInt_no (n : Bool) (s : ByteArray) (e : Int) (w : World) (b : Bool) (hb : rightD n s.data.toList e = b) (h : b = false ∨ (b = true ∧ e < 0)) : Calls Tryz.prog 133 #[.agg #[.bool n, .string s, .int .i64 e]] w fun o w' => o = .returned (.tuple #[.bool false, .int .u64 0, .bool false]) ∧ Below w.heap.size w w' := by
  have HR := Lib.hid (fun w => pRight_is n s e b w hb)
  have A0 := Lib.hid (DecAt.new w n s e)
  have B0 := Lib.hid ((Below.refl _ w).alloc (Nat.le_refl _) (.cells #[.bool n, .string s, .int .i64 e] 24))
  clear hb
  rcases h with rfl | ⟨rfl, he⟩
  · go_enter Tryz.func133, Tryz.ntmps133
    go_wp2_with (go_at_call 126; refine (HR.out _).mono ?_; rintro o w1 ⟨rfl, hb1⟩)
    refine bodyPost_ret (v := .tuple #[.bool false, .int .u64 0, .bool false]) (by simp [results, Tryz.results133, go_sem]) rfl ?_
    exact ⟨rfl, below_next B0.out hb1⟩
  · go_enter Tryz.func133, Tryz.ntmps133
    go_wp2_with (go_at_call 126; refine (HR.out _).mono ?_; rintro o w1 ⟨rfl, hb1⟩; have c2 := (A0.out.below hb1).c2)
    refine bodyPost_ret (v := .tuple #[.bool false, .int .u64 0, .bool false]) (by simp [results, Tryz.results133, go_sem]) rfl ?_
    exact ⟨rfl, below_next B0.out hb1⟩

set_option maxRecDepth 100000 in
set_option maxHeartbeats 2000000 in
theorem ToInt_walk (n : Bool) (s : ByteArray) (k v : Nat) (ok : Bool) (w : World) (hr : rightD n s.data.toList (k : Int) = true) (hs : s.size ≤ 100) (hk : k ≤ 100) (hT : ErrR w)
    (hto : ∀ W, ErrR W → Calls Tryz.prog 172 #[.string (s ++ zerB k)] W fun o w' => o = .returned (.tuple #[.int .u64 (v : Int), .bool ok]) ∧ Below W.heap.size W w') :
    Calls Tryz.prog 133 #[.agg #[.bool n, .string s, .int .i64 (k : Int)]] w fun o w' => o = .returned (if ok = true then .tuple #[.bool n, .int .u64 (v : Int), .bool true] else .tuple #[.bool false, .int .u64 0, .bool false]) ∧ Below w.heap.size w w' := by
  have HR := Lib.hid (fun w => pRight_is n s k true w hr)
  have HTo := Lib.hid hto
  have HZ := Lib.hid (fun w => zer_calls k w (by omega))
  have hno : ¬ 9223372036854775807 < s.size + (zerB k).size := by rw [zerB_size]; omega
  have hno2 : s.size + (zerB k).size ≤ 9223372036854775807 := by rw [zerB_size]; omega
  have HE := Lib.hid hT
  have A0 := Lib.hid (DecAt.new w n s k)
  have B0 := Lib.hid ((Below.refl _ w).alloc (Nat.le_refl _) (.cells #[.bool n, .string s, .int .i64 (k : Int)] 24))
  clear hr hto hT
  go_enter Tryz.func133, Tryz.ntmps133
  go_wp2_with (go_at_call 126; refine (HR.out _).mono ?_; rintro o w1 ⟨rfl, hb1⟩; have c2 := (A0.out.below hb1).c2)
  have A1 := Lib.hid (show DecAt w1.drew w.heap.size n s k from (A0.out.below hb1 : DecAt w1 w.heap.size n s (k : Int)))
  have B1 := Lib.hid (below_next B0.out hb1).drew
  clear hb1 c2
  go_region_held3 (fun w' => w'.cell? ⟨w.heap.size, 1, none⟩ = some (.string s) ∧ w'.cell? ⟨w.heap.size, 2, none⟩ = some (.int .i64 (k : Int)))
    (first
      | exact ⟨A1.out.c1, A1.out.c2⟩
      | exact ⟨(A1.out.below hb2).c1, (A1.out.below hb2).c2⟩
      | exact ⟨((A1.out.below hb2).below hb3).c1, ((A1.out.below hb2).below hb3).c2⟩)
    (first
      | (go_at_call 173; refine (HZ.out _).mono ?_; rintro o w2 ⟨rfl, hb2⟩)
      | (go_at_call 172; refine (HTo.out _ (HE.out.below (below_next B1.out hb2))).mono ?_; rintro o w3 ⟨rfl, hb3⟩))
  have A3 := Lib.hid ((A1.out.below hb2).below hb3)
  have B3 := Lib.hid (below_next (below_next B1.out hb2) hb3)
  have c0 := A3.out.c0
  clear hb2 hb3
  cases ok
  · go_wp2
    refine bodyPost_ret (v := .tuple #[.bool false, .int .u64 0, .bool false]) (by simp [results, Tryz.results133, go_sem]) rfl ?_
    exact ⟨rfl, B3.out⟩
  · go_wp2
    refine bodyPost_ret (v := .tuple #[.bool n, .int .u64 (v : Int), .bool true]) (by simp [results, Tryz.results133, go_sem]) rfl ?_
    exact ⟨rfl, B3.out⟩

theorem right_pos {n : Bool} {l : List UInt8} {e : Int} (h : rightD n l e = true) (he : 0 < e) : 1 ≤ dv l := by
  have h0 : l ≠ [48] := by
    intro hz
    rw [hz, rightD_zero] at h
    simp at h
    omega
  have := (right_num h h0).2.1
  rcases Nat.eq_zero_or_pos (dv l) with h1 | h1
  · rw [h1] at this; exact absurd rfl this
  · exact h1
theorem pToInt_calls (n : Bool) (s : ByteArray) (e : Int) (w : World) (hT : ErrR w) : Calls Tryz.prog 133 #[.agg #[.bool n, .string s, .int .i64 e]] w (ToP (toI n s.data.toList e) w) := by
  cases hr : rightD n s.data.toList e with
  | false =>
    refine (ToInt_no n s e w false hr (.inl rfl)).mono ?_
    rintro o w' ⟨rfl, hb⟩
    exact ⟨by rw [toI, hr, if_neg (by simp)]; rfl, hb⟩
  | true =>
    obtain ⟨_, hl, h1, h2⟩ := right_parts hr
    rw [← Lib.size_eq] at hl
    by_cases he : e < 0
    · refine (ToInt_no n s e w true hr (.inr ⟨rfl, he⟩)).mono ?_
      rintro o w' ⟨rfl, hb⟩
      exact ⟨by rw [toI, if_neg (fun h => by omega)]; rfl, hb⟩
    · obtain ⟨k, rfl⟩ : ∃ k : Nat, e = k := ⟨e.toNat, by omega⟩
      have hnat : isNat (s ++ zerB k).data.toList = true := by
        rw [app_data, zerB_data]
        exact nat_zeros1 hr (by omega)
      have hdv : dv (s ++ zerB k).data.toList = dv s.data.toList * 10 ^ k := by rw [app_data, zerB_data, dv_zeros]
      have hsz : (s ++ zerB k).size ≤ 1000 := by rw [ByteArray.size_append, zerB_size]; omega
      by_cases hlt : dv s.data.toList * 10 ^ k < 18446744073709551616
      · have hk20 : k ≤ 20 := by
          rcases Nat.lt_or_ge 20 k with h | h
          · exfalso
            have h3 := right_pos hr (by omega)
            have h4 : 10 ^ 21 ≤ 10 ^ k := Nat.pow_le_pow_right (by omega) (by omega)
            have h5 : 1 * 10 ^ 21 ≤ dv s.data.toList * 10 ^ k := Nat.mul_le_mul h3 h4
            exact absurd (Nat.lt_of_le_of_lt h5 hlt) (by decide)
          · exact h
        refine (ToInt_walk n s k (dv s.data.toList * 10 ^ k) true w hr hl (by omega) hT (fun W _ => by
          have := To_yes (s ++ zerB k) W hnat hsz (by rw [hdv]; exact hlt)
          rw [hdv] at this
          exact this)).mono ?_
        rintro o w' ⟨rfl, hb⟩
        exact ⟨by rw [toI, if_pos (show rightD n s.data.toList (k : Int) = true ∧ 0 ≤ (k : Int) ∧ (k : Int) ≤ 20 ∧ dv s.data.toList * 10 ^ (k : Int).toNat < 18446744073709551616 from ⟨hr, by omega, by omega, by rw [Int.toNat_natCast]; exact hlt⟩), Int.toNat_natCast]; rfl, hb⟩
      · refine (ToInt_walk n s k 0 false w hr hl (by omega) hT (fun W hW => To_big (s ++ zerB k) W hnat hsz (by rw [hdv]; omega) hW)).mono ?_
        rintro o w' ⟨rfl, hb⟩
        exact ⟨by rw [toI, if_neg (show ¬ (rightD n s.data.toList (k : Int) = true ∧ 0 ≤ (k : Int) ∧ (k : Int) ≤ 20 ∧ dv s.data.toList * 10 ^ (k : Int).toNat < 18446744073709551616) from fun h => hlt (by have := h.2.2.2; rwa [Int.toNat_natCast] at this))]; rfl, hb⟩
end Go.Proofs.YtppapkpceejnkaaGreatDoor
