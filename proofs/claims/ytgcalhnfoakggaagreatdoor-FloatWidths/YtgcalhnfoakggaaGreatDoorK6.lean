/- The walks of FloatBack and FloatWidths. -/
import Derived.Test.YtgcalhnfoakggaaGreatDoorK2
import Derived.Test.YtgcalhnfoakggaaGreatDoorV3
namespace Go.Proofs.YtgcalhnfoakggaaGreatDoor
open Go.RowKit
open Go.Lib (decDigits nDigits)

theorem frO_isW (wd : Int) : (frO wd).isSome = isW wd := by
  rw [frO, isW]
  by_cases h1 : wd = 16
  · subst h1; rfl
  · by_cases h2 : wd = 32
    · subst h2; rfl
    · by_cases h3 : wd = 64
      · subst h3; rfl
      · simp [h1, h2, h3]
set_option maxRecDepth 100000 in
set_option maxHeartbeats 400000 in
theorem IsWidth_calls (wd : Int) (w : World) (hT : Tw w) : Calls Tryz.prog 12 #[.int .i64 wd] w fun o w' => o = .returned (.bool (isW wd)) ∧ Below w.heap.size w w' := by
  have HF := Lib.hid (formOf_calls wd w hT.1)
  rw [← frO_isW]
  obtain ⟨R, hR⟩ : ∃ R, R = frO wd := ⟨_, rfl⟩
  rw [← hR] at HF ⊢
  clear hR hT
  rcases R with _ | x
  all_goals
    simp only [foV] at HF
    go_enter Tryz.func12, Tryz.ntmps12
    go_wp2_with fail
    refine HF.out.mono ?_
    rintro o w1 ⟨rfl, hb1⟩
    have B1 := Lib.hid hb1
    clear hb1
    go_wp2
    go_ret
    exact ⟨rfl, below_al B1.out _⟩
theorem ans_isw (wd : Int) : Ans 12 #[.int .i64 wd] (.bool (isW wd)) := fun W h => IsWidth_calls wd W h.1

set_option maxRecDepth 100000 in
set_option maxHeartbeats 400000 in
theorem back_no (b : Nat) (wd : Int) (w : World) (hT : Tf w)
    (h1 : Ans 12 #[.int .i64 wd] (.bool false))
    (h2 : Ans 8 #[.int .u64 (b : Int), .int .i64 wd] (.tuple #[.int .u64 0, .int .i64 2]))
    (h3 : Ans 10 #[.int .u64 (b : Int), .int .i64 wd] (.tuple #[.int .u64 0, .bool false])) :
    Calls Tryz.prog 6 #[.int .u64 (b : Int), .int .i64 wd] w (BoolP true w) := by
  have H1 := Lib.hid h1
  have H2 := Lib.hid h2
  have H3 := Lib.hid h3
  have HT := Lib.hid hT
  clear h1 h2 h3 hT
  go_enter Tryz.func6, Tryz.ntmps6
  go_wp2_with fail
  refine (shown_calls _ HT.out).mono ?_
  rintro o w1 ⟨rfl, hb1⟩
  have B1 := Lib.hid hb1
  clear hb1
  go_wp2_with fail
  refine (H1.out _ (HT.out.below B1.out)).mono ?_
  rintro o w2 ⟨rfl, hb2⟩
  have B2 := Lib.hid (below_next B1.out hb2)
  clear hb2 B1
  go_wp2_with fail
  refine (H2.out _ (HT.out.below B2.out)).mono ?_
  rintro o w3 ⟨rfl, hb3⟩
  have B3 := Lib.hid (below_next B2.out hb3)
  clear hb3 B2
  go_wp2_with fail
  refine (H3.out _ (HT.out.below B3.out)).mono ?_
  rintro o w4 ⟨rfl, hb4⟩
  have B4 := Lib.hid (below_next B3.out hb4)
  clear hb4 B3
  go_wp2
  go_ret
  exact ⟨rfl, B4.out⟩

set_option maxRecDepth 100000 in
set_option maxHeartbeats 400000 in
theorem back_yes (b a b' c d l' : Nat) (wd e f l : Int) (ok is : Bool) (w : World) (hT : Tf w)
    (h1 : Ans 12 #[.int .i64 wd] (.bool true))
    (h2 : Ans 8 #[.int .u64 (b : Int), .int .i64 wd] (.tuple #[.int .u64 (a : Int), .int .i64 e]))
    (h3 : Ans 10 #[.int .u64 (a : Int), .int .i64 wd] (.tuple #[.int .u64 (b' : Int), .bool ok]))
    (h4 : Ans 10 #[.int .u64 (b : Int), .int .i64 wd] (.tuple #[.int .u64 (c : Int), .bool is]))
    (h5 : Ans 8 #[.int .u64 (c : Int), .int .i64 wd] (.tuple #[.int .u64 (d : Int), .int .i64 f]))
    (h6 : Ans 14 #[.int .u64 (b : Int)] (.int .i64 l))
    (h7 : Ans 10 #[.int .u64 (b : Int), .int .i64 l] (.tuple #[.int .u64 (l' : Int), .bool true]))
    (hc1 : e = 2 ∨ (e = 0 ∧ ok = true ∧ b' = b)) (hc2 : is = false ∨ (is = true ∧ f = 0 ∧ d = b)) (hc3 : decide (l ≤ wd) = is) :
    Calls Tryz.prog 6 #[.int .u64 (b : Int), .int .i64 wd] w (BoolP true w) := by
  have H1 := Lib.hid h1
  have H2 := Lib.hid h2
  have H3 := Lib.hid h3
  have H4 := Lib.hid h4
  have H5 := Lib.hid h5
  have H6 := Lib.hid h6
  have H7 := Lib.hid h7
  have HC1 := Lib.hid hc1
  have HC2 := Lib.hid hc2
  have HC3 := Lib.hid hc3
  have HT := Lib.hid hT
  clear h1 h2 h3 h4 h5 h6 h7 hc1 hc2 hc3 hT
  go_enter Tryz.func6, Tryz.ntmps6
  go_wp2_with fail
  refine (shown_calls _ HT.out).mono ?_
  rintro o w1 ⟨rfl, hb1⟩
  have B1 := Lib.hid hb1
  clear hb1
  go_wp2_with fail
  refine (H1.out _ (HT.out.below B1.out)).mono ?_
  rintro o w2 ⟨rfl, hb2⟩
  have B2 := Lib.hid (below_next B1.out hb2)
  clear hb2 B1
  go_wp2_with fail
  refine (H2.out _ (HT.out.below B2.out)).mono ?_
  rintro o w3 ⟨rfl, hb3⟩
  have B3 := Lib.hid (below_next B2.out hb3)
  clear hb3 B2
  go_wp2_with fail
  refine (H3.out _ (HT.out.below B3.out)).mono ?_
  rintro o w4 ⟨rfl, hb4⟩
  have B4 := Lib.hid (below_next B3.out hb4)
  clear hb4 B3
  go_wp2_with fail
  refine (H4.out _ (HT.out.below B4.out)).mono ?_
  rintro o w5 ⟨rfl, hb5⟩
  have B5 := Lib.hid (below_next B4.out hb5)
  clear hb5 B4
  go_wp2_with fail
  refine (H5.out _ (HT.out.below B5.out)).mono ?_
  rintro o w6 ⟨rfl, hb6⟩
  have B6 := Lib.hid (below_next B5.out hb6)
  clear hb6 B5
  go_wp2_with fail
  refine (H6.out _ (HT.out.below B6.out)).mono ?_
  rintro o w7 ⟨rfl, hb7⟩
  have B7 := Lib.hid (below_next B6.out hb7)
  clear hb7 B6
  go_wp2_with fail
  refine (H7.out _ (HT.out.below B7.out)).mono ?_
  rintro o w8 ⟨rfl, hb8⟩
  have B8 := Lib.hid (below_next B7.out hb8)
  clear hb8 B7
  have hc3 := HC3.out
  rcases HC2.out with rfl | ⟨rfl, rfl, rfl⟩
  · have hl : ¬ l ≤ wd := by simpa using hc3
    have hl2 : wd < l := by omega
    rcases HC1.out with rfl | ⟨rfl, rfl, rfl⟩
    all_goals
      clear HC1 HC2 HC3
      go_wp2
      go_ret
      exact ⟨rfl, B8.out⟩
  · have hl : l ≤ wd := by simpa using hc3
    rcases HC1.out with rfl | ⟨rfl, rfl, rfl⟩
    all_goals
      clear HC1 HC2 HC3
      go_wp2
      go_ret
      exact ⟨rfl, B8.out⟩

theorem wdV_parts (o : Option Nat) : ∃ e : Int, wdV o = .tuple #[.int .u64 ((o.getD 0 : Nat) : Int), .int .i64 e] ∧ (o = none → e = 2) ∧ (∀ c, o = some c → e = 0) := by
  cases o with
  | none => exact ⟨2, rfl, fun _ => rfl, (fun c h => by cases h)⟩
  | some c => exact ⟨0, rfl, (fun h => by cases h), fun _ _ => rfl⟩
theorem wid_lt {a b : Nat} {w : Int} (hb : b < 18446744073709551616) (h : widO b w = some a) : a < 18446744073709551616 := by
  rw [widO] at h
  split at h
  · split at h
    · rename_i h1; cases h; exact (nar_wid16 h1).2
    · cases h
  · split at h
    · split at h
      · rename_i h1; cases h; exact (nar_wid32 h1).2
      · cases h
    · split at h
      · cases h; exact hb
      · cases h
theorem getD_lt {o : Option Nat} (h : ∀ c, o = some c → c < 18446744073709551616) : o.getD 0 < 18446744073709551616 := by
  cases o with
  | none => decide
  | some c => exact h c rfl
theorem back_calls (b : Nat) (wd : Int) (w : World) (hb : b < 18446744073709551616) (hT : Tf w) : Calls Tryz.prog 6 #[.int .u64 (b : Int), .int .i64 wd] w (BoolP true w) := by
  cases hw : isW wd with
  | false =>
    obtain ⟨h1, h2⟩ := wid_some (b := b) hw
    refine back_no b wd w hT ?_ ?_ ?_
    · rw [← hw]; exact ans_isw wd
    · have := ans_wid wd hb; rw [h1] at this; exact this
    · have := ans_nar wd hb; rw [h2] at this; exact this
  | true =>
    obtain ⟨e, he, he0, he1⟩ := wdV_parts (widO b wd)
    obtain ⟨f, hf, hf0, hf1⟩ := wdV_parts (widO ((narO b wd).getD 0) wd)
    have ha : (widO b wd).getD 0 < 18446744073709551616 := getD_lt fun c h => wid_lt hb h
    have hc : (narO b wd).getD 0 < 18446744073709551616 := getD_lt fun c h => nar_lt hb h
    refine back_yes b ((widO b wd).getD 0) ((narO ((widO b wd).getD 0) wd).getD 0) ((narO b wd).getD 0) ((widO ((narO b wd).getD 0) wd).getD 0) ((narO b (leastW b)).getD 0) wd e f (leastW b) (narO ((widO b wd).getD 0) wd).isSome (narO b wd).isSome w hT ?_ ?_ ?_ ?_ ?_ ?_ ?_ ?_ ?_ ?_
    · rw [← hw]; exact ans_isw wd
    · rw [← he]; exact ans_wid wd hb
    · rw [← trV_parts]; exact ans_nar wd ha
    · rw [← trV_parts]; exact ans_nar wd hb
    · rw [← hf]; exact ans_wid wd hc
    · exact fun W h => Least_calls b W hb h.1
    · have := ans_nar (leastW b) hb
      rw [trV_parts, nar_least] at this
      exact this
    · cases h : widO b wd with
      | none => exact .inl (he0 h)
      | some a =>
        refine .inr ⟨he1 a h, ?_, ?_⟩
        · show (narO a wd).isSome = true
          rw [nar_of_wid h]; rfl
        · show (narO a wd).getD 0 = b
          rw [nar_of_wid h]; rfl
    · cases h : narO b wd with
      | none => exact .inl rfl
      | some c =>
        rw [h] at hf1
        refine .inr ⟨rfl, hf1 b (wid_of_nar hb h), ?_⟩
        show (widO c wd).getD 0 = b
        rw [wid_of_nar hb h]; rfl
    · exact (nar_iff hb hw).symm

set_option maxRecDepth 100000 in
set_option maxHeartbeats 400000 in
theorem widths_walk (b a c : Nat) (wd e l : Int) (ok i fin : Bool) (w : World) (hT : Tf w)
    (h1 : Ans 8 #[.int .u64 (b : Int), .int .i64 wd] (.tuple #[.int .u64 (a : Int), .int .i64 e]))
    (r1 : Ans 9 #[.int .u64 (b : Int), .int .i64 wd] (.tuple #[.int .u64 (a : Int), .int .i64 e]))
    (h2 : Ans 10 #[.int .u64 (b : Int), .int .i64 wd] (.tuple #[.int .u64 (c : Int), .bool ok]))
    (r2 : Ans 11 #[.int .u64 (b : Int), .int .i64 wd] (.tuple #[.int .u64 (c : Int), .bool ok]))
    (h3 : Ans 12 #[.int .i64 wd] (.bool i))
    (r3 : Ans 13 #[.int .i64 wd] (.bool i))
    (h4 : Ans 14 #[.int .u64 (b : Int)] (.int .i64 l))
    (r4 : Ans 15 #[.int .u64 (b : Int)] (.int .i64 l))
    (h5 : Ans 16 #[.int .u64 (b : Int)] (.bool fin))
    (r5 : Ans 17 #[.int .u64 (b : Int)] (.bool fin)) :
    Calls Tryz.prog 3 #[.int .u64 (b : Int), .int .i64 wd] w (BoolP true w) := by
  have H1 := Lib.hid h1
  have H2 := Lib.hid h2
  have H3 := Lib.hid h3
  have H4 := Lib.hid h4
  have H5 := Lib.hid h5
  have R1 := Lib.hid r1
  have R2 := Lib.hid r2
  have R3 := Lib.hid r3
  have R4 := Lib.hid r4
  have R5 := Lib.hid r5
  have HT := Lib.hid hT
  clear h1 h2 h3 h4 h5 r1 r2 r3 r4 r5 hT
  go_enter Tryz.func3, Tryz.ntmps3
  go_wp2_with fail
  refine (shown_calls _ HT.out).mono ?_
  rintro o w1 ⟨rfl, hb1⟩
  have B1 := Lib.hid hb1
  clear hb1
  go_wp2_with fail
  refine (H1.out _ (HT.out.below B1.out)).mono ?_
  rintro o w2 ⟨rfl, hb2⟩
  have B2 := Lib.hid (below_next B1.out hb2)
  clear hb2 B1
  go_wp2_with fail
  refine (R1.out _ (HT.out.below B2.out)).mono ?_
  rintro o w3 ⟨rfl, hb3⟩
  have B3 := Lib.hid (below_next B2.out hb3)
  clear hb3 B2
  go_wp2_with fail
  refine (H2.out _ (HT.out.below B3.out)).mono ?_
  rintro o w4 ⟨rfl, hb4⟩
  have B4 := Lib.hid (below_next B3.out hb4)
  clear hb4 B3
  go_wp2_with fail
  refine (R2.out _ (HT.out.below B4.out)).mono ?_
  rintro o w5 ⟨rfl, hb5⟩
  have B5 := Lib.hid (below_next B4.out hb5)
  clear hb5 B4
  go_wp2_with fail
  refine (H3.out _ (HT.out.below B5.out)).mono ?_
  rintro o w6 ⟨rfl, hb6⟩
  have B6 := Lib.hid (below_next B5.out hb6)
  clear hb6 B5
  go_wp2_with fail
  refine (R3.out _ (HT.out.below B6.out)).mono ?_
  rintro o w7 ⟨rfl, hb7⟩
  have B7 := Lib.hid (below_next B6.out hb7)
  clear hb7 B6
  go_wp2_with fail
  refine (H4.out _ (HT.out.below B7.out)).mono ?_
  rintro o w8 ⟨rfl, hb8⟩
  have B8 := Lib.hid (below_next B7.out hb8)
  clear hb8 B7
  go_wp2_with fail
  refine (R4.out _ (HT.out.below B8.out)).mono ?_
  rintro o w9 ⟨rfl, hb9⟩
  have B9 := Lib.hid (below_next B8.out hb9)
  clear hb9 B8
  go_wp2_with fail
  refine (H5.out _ (HT.out.below B9.out)).mono ?_
  rintro o wa ⟨rfl, hba⟩
  have Ba := Lib.hid (below_next B9.out hba)
  clear hba B9
  go_wp2_with fail
  refine (R5.out _ (HT.out.below Ba.out)).mono ?_
  rintro o wb ⟨rfl, hbb⟩
  have Bb := Lib.hid (below_next Ba.out hbb)
  clear hbb Ba
  go_wp2
  go_ret
  exact ⟨rfl, Bb.out⟩
theorem below_same {w w' : World} (h : w = w') : Below w.heap.size w w' := by subst h; exact Below.refl _ _
theorem widths_calls (b : Nat) (wd : Int) (w : World) (hb : b < 18446744073709551616) (hT : Tf w) : Calls Tryz.prog 3 #[.int .u64 (b : Int), .int .i64 wd] w (BoolP true w) := by
  obtain ⟨e, he, he0, he1⟩ := wdV_parts (widO b wd)
  refine widths_walk b ((widO b wd).getD 0) ((narO b wd).getD 0) wd e (leastW b) (narO b wd).isSome (isW wd) (isFin b) w hT ?_ ?_ ?_ ?_ (ans_isw wd) (fun W _ => (rIsWidth_calls wd W).mono fun _ _ ⟨h1, h2⟩ => ⟨h1, below_same h2⟩) (fun W h => Least_calls b W hb h.1) (fun W _ => rLeast_calls b W hb) (fun W h => IsFinite_calls b W hb h.1) (fun W _ => (rIsFinite_calls b W hb).mono fun _ _ ⟨h1, h2⟩ => ⟨h1, below_same h2⟩)
  · rw [← he]; exact ans_wid wd hb
  · intro W _
    refine (rWiden_calls b wd W).mono ?_
    intro o w' h
    cases hR : widO b wd with
    | none => rw [hR] at h; rw [he0 hR]; exact h
    | some c => rw [hR] at h; rw [he1 c hR]; exact h
  · rw [← trV_parts]; exact ans_nar wd hb
  · intro W _
    refine (rNarrow_calls b wd W hb).mono ?_
    intro o w' h
    cases hR : narO b wd with
    | none => rw [hR] at h; exact h
    | some c => rw [hR] at h; exact h
end Go.Proofs.YtgcalhnfoakggaaGreatDoor
