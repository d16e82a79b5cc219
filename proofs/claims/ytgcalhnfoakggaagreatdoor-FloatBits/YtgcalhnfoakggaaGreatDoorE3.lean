/- The walk of Make. -/
import Derived.Test.YtgcalhnfoakggaaGreatDoorE2
namespace Go.Proofs.YtgcalhnfoakggaaGreatDoor
open Go.RowKit
open Go.Lib (decDigits nDigits)

def z3 : Obj := .cells #[.bool false, .string ⟨#[]⟩, .int .i64 0] 34
theorem bel3 {w W : World} {B : Nat} (h : Below w.heap.size w W) (hB : w.heap.size ≤ B) (a b c : Value) : Below w.heap.size w (((W.setCell ⟨B, 0, none⟩ a).setCell ⟨B, 1, none⟩ b).setCell ⟨B, 2, none⟩ c) :=
  ((h.setCell (p := ⟨B, 0, none⟩) hB _).setCell (p := ⟨B, 1, none⟩) hB _).setCell (p := ⟨B, 2, none⟩) hB _

theorem decB_zero : decB 0 = ⟨#[48]⟩ := str_inj (by rw [decB_data, Lib.decDigits_one (by omega)]; rfl)
set_option maxRecDepth 100000 in
set_option maxHeartbeats 1000000 in
theorem Make_empty (n : Bool) (e : Int) (w : World) : Calls Tryz.prog 49 #[.bool n, .string ⟨#[]⟩, .int .i64 e] w (DecP none w) := by
  go_enter Tryz.func49, Tryz.ntmps49
  go_wp2
  refine bodyPost_ret (v := .tuple #[.agg #[.bool false, .string ⟨#[]⟩, .int .i64 0], .int .i64 40]) (by simp [results, Tryz.results49, go_sem]) rfl ?_
  exact ⟨rfl, by first | exact (Below.refl _ w).alloc (Nat.le_refl _) _ | exact bel3 ((Below.refl _ w).alloc (Nat.le_refl _) _) (Nat.le_refl _) _ _ _⟩

set_option maxRecDepth 100000 in
set_option maxHeartbeats 1000000 in
theorem Make_far (n : Bool) (s : ByteArray) (e : Int) (w : World) (h0 : ¬ s.toList = []) (h1 : (decide (-1000 ≤ e) && decide (e ≤ 1000)) = false) : Calls Tryz.prog 49 #[.bool n, .string s, .int .i64 e] w (DecP none w) := by
  have HW := Lib.hid (fun w => within_is e 1000 false w (by omega) (by omega) h1)
  have h02 : (s.toList == []) = false := beq_eq_false_iff_ne.2 h0
  have h03 : s.toList.isEmpty = false := by simpa using h0
  clear h1
  go_enter Tryz.func49, Tryz.ntmps49
  go_wp2_with (go_at_call 54; refine (HW.out _).mono ?_; rintro o w3 ⟨rfl, rfl⟩)
  refine bodyPost_ret (v := .tuple #[.agg #[.bool false, .string ⟨#[]⟩, .int .i64 0], .int .i64 40]) (by simp [results, Tryz.results49, go_sem]) rfl ?_
  exact ⟨rfl, by first | exact (Below.refl _ _).alloc (Nat.le_refl _) _ | exact bel3 ((Below.refl _ _).alloc (Nat.le_refl _) _) (Nat.le_refl _) _ _ _⟩

set_option maxRecDepth 100000 in
set_option maxHeartbeats 1000000 in
theorem Make_zero (n : Bool) (s : ByteArray) (e : Int) (w : World) (h0 : ¬ s.toList = []) (h1 : (decide (-1000 ≤ e) && decide (e ≤ 1000)) = true) (h2 : Lib.trimLeftB s.data.toList 48 = []) : Calls Tryz.prog 49 #[.bool n, .string s, .int .i64 e] w (DecP (some (false, 0, 0)) w) := by
  have HW := Lib.hid (fun w => within_is e 1000 true w (by omega) (by omega) h1)
  have HL := Lib.hid (fun w => (Tryz.strings_TrimLeft_one s 48 (by decide) w).mono fun o w' (h : _ ∧ _) => (show o = .returned (.string ⟨#[]⟩) ∧ w' = w from ⟨by rw [h.1, h2], h.2⟩))
  have A0 := Lib.hid (DecAt.new w false ⟨#[]⟩ 0)
  have B0 := Lib.hid ((Below.refl _ w).alloc (Nat.le_refl _) (.cells #[.bool false, .string ⟨#[]⟩, .int .i64 0] 34))
  have h02 : (s.toList == []) = false := beq_eq_false_iff_ne.2 h0
  have h03 : s.toList.isEmpty = false := by simpa using h0
  clear h1 h2
  go_enter Tryz.func49, Tryz.ntmps49
  go_wp2_with (first
    | (go_at_call 54; refine (HW.out _).mono ?_; rintro o w3 ⟨rfl, rfl⟩)
    | (go_at_call 69; refine (HL.out _).mono ?_; rintro o w3 ⟨rfl, rfl⟩)
    | (go_at_call 52; refine (zero_calls _).mono ?_; rintro o w4 ⟨rfl, hb4⟩; have A4 := Lib.hid (A0.out.below hb4); have B4 := Lib.hid (below_next B0.out hb4); clear hb4; have c0 := A4.out.c0; have c1 := A4.out.c1; have c2 := A4.out.c2; have f0 := A4.out.f 0; have f1 := A4.out.f 1; have f2 := A4.out.f 2; have hz := A4.out.lt))
  refine bodyPost_ret (v := .tuple #[.agg #[.bool false, .string ⟨#[48]⟩, .int .i64 0], .int .i64 0]) (by simp [results, Tryz.results49, go_sem, c0, c1, c2]) rfl ?_
  exact ⟨by rw [dS, decB_zero]; rfl, bel3 B4.out (Nat.le_refl _) _ _ _⟩

set_option maxRecDepth 100000 in
set_option maxHeartbeats 1000000 in
theorem Make_unnat (n : Bool) (s nt : ByteArray) (e : Int) (w : World) (h0 : ¬ s.toList = []) (h1 : (decide (-1000 ≤ e) && decide (e ≤ 1000)) = true) (h2 : nt = ⟨(Lib.trimLeftB s.data.toList 48).toArray⟩) (h3 : ¬ nt.toList = []) (h4 : isNat nt.data.toList = false) : Calls Tryz.prog 49 #[.bool n, .string s, .int .i64 e] w (DecP none w) := by
  have HW := Lib.hid (fun w => within_is e 1000 true w (by omega) (by omega) h1)
  have HL := Lib.hid (fun w => (Tryz.strings_TrimLeft_one s 48 (by decide) w).mono fun o w' (h : _ ∧ _) => (show o = .returned (.string nt) ∧ w' = w from ⟨by rw [h.1, h2], h.2⟩))
  have HN := Lib.hid (fun w => natR_calls nt false w h4)
  have A0 := Lib.hid (DecAt.new w false ⟨#[]⟩ 0)
  have B0 := Lib.hid ((Below.refl _ w).alloc (Nat.le_refl _) (.cells #[.bool false, .string ⟨#[]⟩, .int .i64 0] 34))
  have h02 : (s.toList == []) = false := beq_eq_false_iff_ne.2 h0
  have h03 : s.toList.isEmpty = false := by simpa using h0
  have h32 : (nt.toList == []) = false := beq_eq_false_iff_ne.2 h3
  have h33 : nt.toList.isEmpty = false := by simpa using h3
  clear h1 h2 h4
  go_enter Tryz.func49, Tryz.ntmps49
  go_wp2_with (first
    | (go_at_call 54; refine (HW.out _).mono ?_; rintro o w3 ⟨rfl, rfl⟩)
    | (go_at_call 69; refine (HL.out _).mono ?_; rintro o w3 ⟨rfl, rfl⟩)
    | (go_at_call 53; refine (HN.out _).mono ?_; rintro o w4 ⟨rfl, hb4⟩; have A4 := Lib.hid (A0.out.below hb4); have B4 := Lib.hid (below_next B0.out hb4); clear hb4; have c0 := A4.out.c0; have c1 := A4.out.c1; have c2 := A4.out.c2; have f0 := A4.out.f 0; have f1 := A4.out.f 1; have f2 := A4.out.f 2; have hz := A4.out.lt))
  refine bodyPost_ret (v := .tuple #[.agg #[.bool false, .string ⟨#[]⟩, .int .i64 0], .int .i64 40]) (by simp [results, Tryz.results49, go_sem, c0, c1, c2]) rfl ?_
  exact ⟨rfl, bel3 B4.out (Nat.le_refl _) _ _ _⟩

set_option maxRecDepth 100000 in
set_option maxHeartbeats 1000000 in
theorem Make_full (n : Bool) (s nt kp : ByteArray) (e : Int) (b : Bool) (w : World) (h0 : ¬ s.toList = []) (h1 : (decide (-1000 ≤ e) && decide (e ≤ 1000)) = true) (h2 : nt = ⟨(Lib.trimLeftB s.data.toList 48).toArray⟩) (h3 : ¬ nt.toList = []) (h4 : isNat nt.data.toList = true)
    (h5 : kp = ⟨(Lib.trimRightB nt.data.toList 48).toArray⟩) (hl : nt.size ≤ 400) (hk : kp.size ≤ nt.size) (hb : rightD n kp.data.toList (e + nt.size - kp.size) = b) :
    Calls Tryz.prog 49 #[.bool n, .string s, .int .i64 e] w fun o w' => o = .returned (.tuple (if b = true then #[.agg #[.bool n, .string kp, .int .i64 (e + nt.size - kp.size)], .int .i64 0] else #[.agg #[.bool false, .string ⟨#[]⟩, .int .i64 0], .int .i64 40])) ∧ Below w.heap.size w w' := by
  have HW := Lib.hid (fun w => within_is e 1000 true w (by omega) (by omega) h1)
  have HL := Lib.hid (fun w => (Tryz.strings_TrimLeft_one s 48 (by decide) w).mono fun o w' (h : _ ∧ _) => (show o = .returned (.string nt) ∧ w' = w from ⟨by rw [h.1, h2], h.2⟩))
  have HR := Lib.hid (fun w => (Tryz.strings_TrimRight_one nt 48 (by decide) w (by omega)).mono fun o w' (h : _ ∧ _) => (show o = .returned (.string kp) ∧ w' = w from ⟨by rw [h.1, h5], h.2⟩))
  have HN := Lib.hid (fun w => natR_calls nt true w h4)
  have HX := Lib.hid (fun w => pRight_is n kp _ b w hb)
  have A0 := Lib.hid (DecAt.new w false ⟨#[]⟩ 0)
  have B0 := Lib.hid ((Below.refl _ w).alloc (Nat.le_refl _) (.cells #[.bool false, .string ⟨#[]⟩, .int .i64 0] 34))
  have h02 : (s.toList == []) = false := beq_eq_false_iff_ne.2 h0
  have h03 : s.toList.isEmpty = false := by simpa using h0
  have h32 : (nt.toList == []) = false := beq_eq_false_iff_ne.2 h3
  have h33 : nt.toList.isEmpty = false := by simpa using h3
  have he1 : -1000 ≤ e := by simp only [Bool.and_eq_true, decide_eq_true_eq] at h1; exact h1.1
  have he2 : e ≤ 1000 := by simp only [Bool.and_eq_true, decide_eq_true_eq] at h1; exact h1.2
  clear h1 h2 h4 h5 hb
  go_enter Tryz.func49, Tryz.ntmps49
  go_wp2_with (first
    | (go_at_call 54; refine (HW.out _).mono ?_; rintro o w3 ⟨rfl, rfl⟩)
    | (go_at_call 69; refine (HL.out _).mono ?_; rintro o w3 ⟨rfl, rfl⟩)
    | (go_at_call 58; refine (HR.out _).mono ?_; rintro o w3 ⟨rfl, rfl⟩)
    | (go_at_call 53; refine (HN.out _).mono ?_; rintro o w4 ⟨rfl, hb4⟩; have A4 := Lib.hid (A0.out.below hb4); have B4 := Lib.hid (below_next B0.out hb4); clear hb4))
  have A5 := Lib.hid (A4.out.alloc (.cells #[.bool n, .string kp, .int .i64 (e + nt.size - kp.size)] 34))
  have D5 := Lib.hid (DecAt.new w3 n kp (e + nt.size - kp.size))
  have B5 := Lib.hid (B4.out.alloc B4.out.size (.cells #[.bool n, .string kp, .int .i64 (e + nt.size - kp.size)] 34))
  refine (HX.out _).mono ?_
  rintro o w6 ⟨rfl, hb6⟩
  have A6 := Lib.hid (A5.out.below hb6)
  have D6 := Lib.hid (D5.out.below hb6)
  have B6 := Lib.hid (below_next B5.out hb6)
  clear hb6 A0 B0 A4 B4 A5 D5 B5
  have c0 := A6.out.c0
  have c1 := A6.out.c1
  have c2 := A6.out.c2
  have f0 := A6.out.f 0
  have f1 := A6.out.f 1
  have f2 := A6.out.f 2
  have hz := A6.out.lt
  have d0 := D6.out.c0
  have d1 := D6.out.c1
  have d2 := D6.out.c2
  cases b
  · go_wp2
    refine bodyPost_ret (v := .tuple #[.agg #[.bool false, .string ⟨#[]⟩, .int .i64 0], .int .i64 40]) (by simp [results, Tryz.results49, go_sem, c0, c1, c2]) rfl ?_
    exact ⟨rfl, bel3 B6.out (Nat.le_refl _) _ _ _⟩
  · go_wp2
    refine bodyPost_ret (v := .tuple #[.agg #[.bool n, .string kp, .int .i64 (e + nt.size - kp.size)], .int .i64 0]) (by simp [results, Tryz.results49, go_sem, c0, c1, c2]) rfl ?_
    exact ⟨rfl, bel3 B6.out (Nat.le_refl _) _ _ _⟩

theorem mk_data (l : List UInt8) : (ByteArray.mk l.toArray).data.toList = l := by simp
theorem ne_toList {s : ByteArray} (h : s.data.toList ≠ []) : ¬ s.toList = [] := by rw [Lib.toList_data]; exact h
theorem pMake_calls (n : Bool) (s : ByteArray) (e : Int) (w : World) (hs : s.size ≤ 400) : Calls Tryz.prog 49 #[.bool n, .string s, .int .i64 e] w (DecP (makeR n s.data.toList e) w) := by
  have hl : s.data.toList.length ≤ 400 := by rw [← Lib.size_eq]; exact hs
  by_cases h0 : s.data.toList = []
  · obtain rfl : s = ⟨#[]⟩ := str_inj h0
    rw [makeR_bad (.inl h0)]
    exact Make_empty n e w
  cases h1 : (decide (-1000 ≤ e) && decide (e ≤ 1000)) with
  | false =>
    rw [makeR_bad (by
      simp only [Bool.and_eq_false_iff, decide_eq_false_iff_not] at h1
      rcases h1 with h | h
      · exact .inr (.inr (.inl (by omega)))
      · exact .inr (.inr (.inr (.inl (by omega)))))]
    exact Make_far n s e w (ne_toList h0) h1
  | true =>
    have he := h1
    simp only [Bool.and_eq_true, decide_eq_true_eq] at he
    obtain ⟨m1, m2, m3⟩ := make_steps (n := n) hl h0 he.1 he.2 rfl rfl
    by_cases hz : Lib.trimLeftB s.data.toList 48 = []
    · rw [m1 hz]
      exact Make_zero n s e w (ne_toList h0) h1 hz
    · obtain ⟨nt, hnt⟩ : ∃ nt : ByteArray, nt = ⟨(Lib.trimLeftB s.data.toList 48).toArray⟩ := ⟨_, rfl⟩
      have hd : nt.data.toList = Lib.trimLeftB s.data.toList 48 := by rw [hnt, mk_data]
      rw [← hd] at hz m2 m3
      cases h4 : isNat nt.data.toList with
      | false =>
        rw [m2 hz h4]
        exact Make_unnat n s nt e w (ne_toList h0) h1 hnt (ne_toList hz) h4
      | true =>
        obtain ⟨kp, hkp⟩ : ∃ kp : ByteArray, kp = ⟨(Lib.trimRightB nt.data.toList 48).toArray⟩ := ⟨_, rfl⟩
        have hkd : kp.data.toList = Lib.trimRightB nt.data.toList 48 := by rw [hkp, mk_data]
        obtain ⟨q1, q2, q3, q4, q5⟩ := m3 h4
        rw [← hkd, ← Lib.size_eq, ← Lib.size_eq] at q4 q5
        rw [← hkd, ← Lib.size_eq, ← Lib.size_eq] at q1
        have hnl : nt.size ≤ 400 := (nat_digs h4).2
        cases hb : rightD n kp.data.toList (e + nt.size - kp.size) with
        | false =>
          rw [q5 hb]
          exact Make_full n s nt kp e false w (ne_toList h0) h1 hnt (ne_toList hz) h4 hkp hnl q1 hb
        | true =>
          rw [(q4 hb).1]
          have hc : decB (dv kp.data.toList) = kp := str_inj (by rw [decB_data]; exact (q4 hb).2)
          refine (Make_full n s nt kp e true w (ne_toList h0) h1 hnt (ne_toList hz) h4 hkp hnl q1 hb).mono ?_
          rintro o w' ⟨rfl, hw⟩
          exact ⟨by simp only [dN, dS, dX, decE, hc]; rfl, hw⟩
end Go.Proofs.YtgcalhnfoakggaaGreatDoor
