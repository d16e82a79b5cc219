/- The walks of pointed, unsigned, Format. -/
import Derived.Test.YtifccjchpciicaaGreatDoorE3
import Derived.Lib.LaidTab
import Derived.Lib.AppendIntMem
import Derived.Deep.QuietTactic
import Derived.BigQuiet
namespace Go.Proofs.YtifccjchpciicaaGreatDoor
open Go.RowKit
open Go.Lib (decDigits nDigits)

theorem itoa_numB (x : Int) : (ByteArray.mk (Lib.itoa x).toArray) = numB x := str_inj (by
  rw [mk_data, Lib.itoa, numB]
  by_cases h : x < 0
  · rw [if_pos h, if_pos h, app_data, decB_data]; rfl
  · rw [if_neg h, if_neg h, decB_data, show x.natAbs = x.toNat from by omega])
theorem itoa_calls (x : Int) (w : World) (h0 : -100000 ≤ x) (h1 : x ≤ 100000) (hT : Tab w) : Calls Tryz.prog 45 #[.int .i64 x] w fun o w' => o = .returned (.string (numB x)) ∧ Below w.heap.size w w' := by
  refine (Tryz.strconv_Itoa x (by omega) (by omega) w hT).mono ?_
  rintro o w' ⟨rfl, k, os, rfl⟩
  exact ⟨by rw [itoa_numB], Lib.below_grow _ w (Nat.le_refl _) k os⟩
theorem rep_zer (c : Nat) : (ByteArray.mk (Lib.repeatL [48] c).toArray) = zerB c := by
  have : Lib.repeatL [48] c = List.replicate c 48 := by
    have := Lib.repeatL_replicate 48 1 c
    rwa [Nat.mul_one] at this
  rw [this]; rfl
theorem zer_calls (c : Nat) (w : World) (hc : c ≤ 100000) : Calls Tryz.prog 16 #[.string ⟨#[48]⟩, .int .i64 (c : Int)] w fun o w' => o = .returned (.string (zerB c)) ∧ Below w.heap.size w w' := by
  refine (Tryz.strings_Repeat ⟨#[48]⟩ c w (by omega) (by simp [ByteArray.size]; omega)).mono ?_
  rintro o w' ⟨rfl, hb⟩
  exact ⟨by rw [← rep_zer], hb⟩
theorem zer_eq (x : Int) (c : Nat) (w : World) (hx : x = (c : Int)) (hc : c ≤ 100000) : Calls Tryz.prog 16 #[.string ⟨#[48]⟩, .int .i64 x] w fun o w' => o = .returned (.string (zerB c)) ∧ Below w.heap.size w w' := hx ▸ zer_calls c w hc

/-- A point ahead of the last k bytes. -/
def ptB (s : ByteArray) (k : Nat) : ByteArray := s.extract 0 (s.size - k) ++ ⟨#[46]⟩ ++ s.extract (s.size - k) s.size

set_option maxRecDepth 100000 in
set_option maxHeartbeats 1000000 in
theorem pointed_long (s : ByteArray) (k : Nat) (w : World) (hs : s.size ≤ 1000) (hk : k < s.size) : Calls Tryz.prog 46 #[.string s, .int .i64 (k : Int)] w fun o w' => o = .returned (.string (ptB s k)) ∧ Below w.heap.size w w' := by
  obtain ⟨p, hp⟩ : ∃ p, p = s.size - k := ⟨_, rfl⟩
  have hd : (s.size : Int) - (k : Int) = (p : Int) := by omega
  have hps : (p : Int) ≤ (s.size : Int) := by omega
  have hp0 : (0 : Int) ≤ (p : Int) := by omega
  have hm : ¬ (k : Int) + 1 - (s.size : Int) > 0 := by omega
  rw [ptB, ← hp]
  have z1 : (s.extract 0 p).size ≤ 1000 := by rw [ByteArray.size_extract]; omega
  have z2 : (s.extract p s.size).size ≤ 1000 := by rw [ByteArray.size_extract]; omega
  clear hp
  go_enter Tryz.func46, Tryz.ntmps46
  go_wp2
  go_quiet (fail)
  go_wp2
  go_ret
  exact ⟨rfl, below_drewN (Below.refl _ _) _⟩

set_option maxRecDepth 100000 in
set_option maxHeartbeats 1000000 in
theorem pointed_short (s t : ByteArray) (k c : Nat) (w : World) (hk : k ≤ 1000) (hs : s.size ≤ k) (hc : c = k + 1 - s.size) (ht : t = zerB c ++ s) : Calls Tryz.prog 46 #[.string s, .int .i64 (k : Int)] w fun o w' => o = .returned (.string (ptB t k)) ∧ Below w.heap.size w w' := by
  have hts : t.size = k + 1 := by rw [ht, ByteArray.size_append, zerB_size]; omega
  have htz : (t.size : Int) = (k : Int) + 1 := by omega
  have hcz : (k : Int) + 1 - (s.size : Int) = (c : Int) := by omega
  have hc0 : (0 : Int) < (c : Int) := by omega
  have hzs := zerB_size c
  have hd : (k : Int) + 1 - (k : Int) = 1 := by omega
  have HZ := Lib.hid (fun w => zer_calls c w (by omega))
  have HT := Lib.hid ht.symm
  obtain ⟨p, hp⟩ : ∃ p, p = t.size - k := ⟨_, rfl⟩
  rw [ptB, ← hp]
  have z1 : (t.extract 0 p).size ≤ 1000 := by rw [ByteArray.size_extract]; omega
  have z2 : (t.extract p t.size).size ≤ 1001 := by rw [ByteArray.size_extract]; omega
  have HP : Hid ((p : Int) = 1) := Lib.hid (by omega)
  clear hp
  clear hc ht hts
  go_enter Tryz.func46, Tryz.ntmps46
  go_wp2_with (go_at_call 16; refine (HZ.out _).mono ?_; rintro o w1 ⟨rfl, hb1⟩; have HB1 := Lib.hid hb1; clear hb1)
  rw [HT.out, show (c : Int) + (s.size : Int) - (k : Int) = (p : Int) from by have := HP.out; omega]
  have hps : (p : Int) ≤ (t.size : Int) := by have := HP.out; omega
  have hp0 : (0 : Int) ≤ (p : Int) := by omega
  have htk : t.size ≤ 1001 := by omega
  clear hcz hc0 hzs hd htz HZ HT HP
  go_quiet (fail)
  go_wp2
  go_ret
  exact ⟨rfl, below_drewN HB1.out _⟩

theorem pointed_calls (s : ByteArray) (k : Nat) (w : World) (hs : s.size ≤ 1000) (hk : k ≤ 1000) : Calls Tryz.prog 46 #[.string s, .int .i64 (k : Int)] w fun o w' => o = .returned (.string (ptB (zerB (1 + k - s.size) ++ s) k)) ∧ Below w.heap.size w w' := by
  by_cases h : k < s.size
  · have e : zerB (1 + k - s.size) ++ s = s := str_inj (by rw [app_data, zerB_data, show 1 + k - s.size = 0 from by omega]; rfl)
    rw [e]
    exact pointed_long s k w hs h
  · exact pointed_short s _ k _ w hk (by omega) (by omega) rfl

set_option maxRecDepth 100000 in
set_option maxHeartbeats 1000000 in
theorem unsigned_calls (s : ByteArray) (e : Int) (w : World) (hs : s.size ≤ 100) (h1 : -100 ≤ e) (h2 : e ≤ 100) (hT : Tab w) : Calls Tryz.prog 23 #[.string s, .int .i64 e] w fun o w' => o = .returned (.string (fmtB s e)) ∧ Below w.heap.size w w' := by
  cases hb : (decide (-20 ≤ e) && decide (e ≤ 20)) with
  | false =>
    have HW := Lib.hid (fun w => within_is e 20 false w (by omega) (by omega) hb)
    have HI := Lib.hid (fun w => itoa_calls e w (by omega) (by omega))
    have hF : fmtB s e = s ++ ⟨#[101]⟩ ++ numB e := by
      rw [fmtB, if_pos]
      simp only [Bool.and_eq_false_iff, decide_eq_false_iff_not] at hb
      omega
    have HT := Lib.hid hT
    have hn := numB_size (x := e) (by omega) (by omega)
    rw [hF]
    clear hF hb hT
    go_enter Tryz.func23, Tryz.ntmps23
    go_wp2_with (first
      | (go_at_call 30; refine (HW.out _).mono ?_; rintro o w3 ⟨rfl, rfl⟩)
      | (go_at_call 45; refine (HI.out _ HT.out).mono ?_; rintro o w3 ⟨rfl, hb3⟩))
    go_ret
    exact ⟨rfl, hb3⟩
  | true =>
    have HW := Lib.hid (fun w => within_is e 20 true w (by omega) (by omega) hb)
    simp only [Bool.and_eq_true, decide_eq_true_eq] at hb
    obtain ⟨g1, g2⟩ := hb
    by_cases h0 : e < 0
    · obtain ⟨k, rfl⟩ : ∃ k : Nat, e = -(k : Int) := ⟨e.natAbs, by omega⟩
      have HP := Lib.hid (fun w => pointed_calls s k w (by omega) (by omega))
      have hF : fmtB s (-(k : Int)) = ptB (zerB (1 + k - s.size) ++ s) k := by
        rw [fmtB, if_neg (by omega), if_neg (by omega), ptB, show (1 - -(k : Int) - (s.size : Int)).toNat = 1 + k - s.size from by omega, show (-(k : Int)).natAbs = k from by omega]
      rw [hF]
      clear hF hT
      go_enter Tryz.func23, Tryz.ntmps23
      go_wp2_with (first
        | (go_at_call 30; refine (HW.out _).mono ?_; rintro o w3 ⟨rfl, rfl⟩)
        | (go_at_call 46; refine (HP.out _).mono ?_; rintro o w3 ⟨rfl, hb3⟩))
      go_ret
      exact ⟨rfl, hb3⟩
    · obtain ⟨k, rfl⟩ : ∃ k : Nat, e = (k : Int) := ⟨e.toNat, by omega⟩
      have HP := Lib.hid (fun w => zer_calls k w (by omega))
      have hzs := zerB_size k
      have hF : fmtB s (k : Int) = s ++ zerB k := by rw [fmtB, if_neg (by omega), if_pos (by omega)]; rfl
      rw [hF]
      clear hF hT
      go_enter Tryz.func23, Tryz.ntmps23
      go_wp2_with (first
        | (go_at_call 30; refine (HW.out _).mono ?_; rintro o w3 ⟨rfl, rfl⟩)
        | (go_at_call 16; refine (HP.out _).mono ?_; rintro o w3 ⟨rfl, hb3⟩))
      go_ret
      exact ⟨rfl, hb3⟩

theorem fmtB_size {n : Bool} {s : ByteArray} {e : Int} (h : rightD n s.data.toList e = true) : (fmtB s e).size ≤ 300 := by
  obtain ⟨_, hl, h1, h2⟩ := right_parts h
  rw [← Lib.size_eq] at hl
  have hn := numB_size (x := e) (by omega) (by omega)
  rw [fmtB]
  split
  · rw [ByteArray.size_append, ByteArray.size_append, show (ByteArray.mk #[101]).size = 1 from rfl]; omega
  · split
    · rw [ByteArray.size_append, zerB_size]; omega
    · rw [ByteArray.size_append, ByteArray.size_append, ByteArray.size_extract, ByteArray.size_extract, ByteArray.size_append, zerB_size, show (ByteArray.mk #[46]).size = 1 from rfl]; omega
theorem empty_app (s : ByteArray) : (ByteArray.mk #[]) ++ s = s := str_inj (by rw [app_data]; rfl)

set_option maxRecDepth 100000 in
set_option maxHeartbeats 1000000 in
theorem pFormat_calls (n : Bool) (s : ByteArray) (e : Int) (w : World) (hT : Tab w) : Calls Tryz.prog 11 #[.agg #[.bool n, .string s, .int .i64 e]] w (FmtP n s e w) := by
  have A0 := Lib.hid (DecAt.new w n s e)
  have B0 := Lib.hid ((Below.refl _ w).alloc (Nat.le_refl _) (.cells #[.bool n, .string s, .int .i64 e] 24))
  have HT := Lib.hid hT
  cases hr : rightD n s.data.toList e with
  | false =>
    have HR := Lib.hid (fun w => pRight_is n s e false w hr)
    have HF : Hid (fS n s e = noB ∧ fE n s e = 40) := Lib.hid ⟨by rw [fS, hr]; rfl, by rw [fE, hr]; rfl⟩
    clear hr hT
    go_enter Tryz.func11, Tryz.ntmps11
    go_wp2_with (go_at_call 14; refine (HR.out _).mono ?_; rintro o w1 ⟨rfl, hb1⟩)
    go_ret2
    exact ⟨by rw [HF.out.1, HF.out.2]; rfl, below_next B0.out hb1⟩
  | true =>
    have HR := Lib.hid (fun w => pRight_is n s e true w hr)
    obtain ⟨_, hl, h1, h2⟩ := right_parts hr
    rw [← Lib.size_eq] at hl
    have hz := fmtB_size hr
    have HF : Hid (fS n s e = sgnB n (fmtB s e) ∧ fE n s e = 0) := Lib.hid ⟨by rw [fS, if_pos hr], by rw [fE, if_pos hr]⟩
    have HU := Lib.hid (fun w => unsigned_calls s e w hl h1 h2)
    clear hr hT
    cases n
    all_goals
      go_enter Tryz.func11, Tryz.ntmps11
      go_wp2_with (first
        | (go_at_call 14; refine (HR.out _).mono ?_; rintro o w1 ⟨rfl, hb1⟩; have A1 := Lib.hid (A0.out.below hb1); have B1 := Lib.hid (below_next B0.out hb1); clear hb1; have c0 := A1.out.c0; have c1 := A1.out.c1; have c2 := A1.out.c2)
        | (go_at_call 23; refine (HU.out _ (HT.out.below B1.out)).mono ?_; rintro o w2 ⟨rfl, hb2⟩))
      go_ret2
      exact ⟨by rw [HF.out.1, HF.out.2]; first | rfl | (simp only [empty_app]; rfl), below_next B1.out hb2⟩
end Go.Proofs.YtifccjchpciicaaGreatDoor
