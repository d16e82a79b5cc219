/- The walks of DecSigns and DecWhole. -/
import Derived.Test.YtifccjchpciicaaDoorL2
namespace Go.Proofs.YtifccjchpciicaaDoor
open Go.RowKit
open Go.Lib (decDigits nDigits)

theorem numL_len {x : Int} (h1 : -9999 ≤ x) (h2 : x ≤ 9999) : (numL x).length ≤ 5 := by
  have hd : nDigits x.natAbs ≤ 4 := nDigits_le (by decide) (by omega)
  rw [numL]
  split
  · rw [List.length_cons, Lib.decDigits_length]; omega
  · rw [Lib.decDigits_length]; omega
theorem fmt_size {n m : Bool} {s : ByteArray} {e : Int} (h : rightD n s.data.toList e = true) : (sgnB m (fmtB s e)).size ≤ 300 := by
  obtain ⟨_, h2, h3, h4⟩ := right_parts h
  have hf : (fmtL s.data.toList e).length ≤ 299 := by
    rw [fmtL]
    split
    · have := numL_len (x := e) (by omega) (by omega)
      rw [List.length_append, List.length_cons]; omega
    · split
      · rw [List.length_append, List.length_replicate]; omega
      · rw [List.length_append, List.length_cons, List.length_take, List.length_drop, padL, List.length_append, List.length_replicate]; omega
  rw [Lib.size_eq, sgnB_data, fmtB_data, sgL]
  split
  · rw [List.length_cons]; omega
  · omega
theorem fS_size (n : Bool) (s : ByteArray) (e : Int) : (fS n s e).size ≤ 300 := by
  rw [fS]
  split
  · rename_i h; exact fmt_size h
  · exact Nat.zero_le _
theorem DecAt.setN {W : World} {B : Nat} {n : Bool} {s : ByteArray} {e : Int} (h : DecAt W B n s e) (m : Bool) : DecAt (W.setCell ⟨B, 0, none⟩ (.bool m)) B m s e := heap_setCell_same W B 0 _ _ (.bool m) h

set_option maxRecDepth 100000 in
set_option maxHeartbeats 2000000 in
theorem signs_calls (n : Bool) (s : ByteArray) (e : Int) (w : World) (hT : Tb w) : Calls Tryd.prog 7 #[.agg #[.bool n, .string s, .int .i64 e]] w (BoolP true w) := by
  obtain ⟨t, ht⟩ : ∃ t, t = cutB 200 s := ⟨_, rfl⟩
  have F1 := (ans_format false t e).1
  have F2 := (ans_format true t e).1
  obtain ⟨a, ha⟩ : ∃ a, a = fS false t e := ⟨_, rfl⟩
  obtain ⟨x, hx⟩ : ∃ x, x = fE false t e := ⟨_, rfl⟩
  obtain ⟨b, hb⟩ : ∃ b, b = fS true t e := ⟨_, rfl⟩
  obtain ⟨y, hy⟩ : ∃ y, y = fE true t e := ⟨_, rfl⟩
  rw [← ha, ← hx] at F1
  rw [← hb, ← hy] at F2
  have hcase : (t.data.toList = [48] ∧ y = 40) ∨ (t.data.toList ≠ [48] ∧ x = y ∧ ((x = 0 ∧ b = ⟨#[45]⟩ ++ a ∧ a.size ≤ 1000) ∨ x = 40)) := by
    by_cases h : t.data.toList = [48]
    · refine .inl ⟨h, ?_⟩
      rw [hy, fE, h, right_neg0]; rfl
    · refine .inr ⟨h, by rw [hx, hy, fE, fE, right_sign h], ?_⟩
      cases hr : rightD false t.data.toList e with
      | true =>
        refine .inl ⟨by rw [hx, fE, if_pos hr], ?_, ?_⟩
        · rw [hb, ha, fS, fS, right_sign h, if_pos hr, if_pos hr]; rfl
        · rw [ha]; have := fS_size false t e; omega
      | false => exact .inr (by rw [hx, fE, hr]; rfl)
  have HF1 := Lib.hid F1
  have HF2 := Lib.hid F2
  have HC := Lib.hid hcase
  have HT := Lib.hid hT
  have HTt := Lib.hid ht
  clear F1 F2 hcase hT ha hx hb hy ht
  have CC := fun W => Cut_calls n s e W
  rw [← HTt.out] at CC
  have HCC := Lib.hid CC
  clear CC
  go_enter Tryd.func7, Tryd.ntmps7
  go_wp2_with fail
  have A0 := Lib.hid (DecAt.new w n s e)
  have B0 := Lib.hid ((Below.refl _ w).alloc (Nat.le_refl _) (.cells #[.bool n, .string s, .int .i64 e] 23))
  refine (shown_calls _ (HT.out.below B0.out)).mono ?_
  rintro o w1 ⟨rfl, hb1⟩
  have A1 := Lib.hid (A0.out.below hb1)
  have B1 := Lib.hid (below_next B0.out hb1)
  have c0 := A1.out.c0
  have c1 := A1.out.c1
  have c2 := A1.out.c2
  clear hb1
  go_wp2_with fail
  refine (HCC.out _).mono ?_
  rintro o w2 ⟨rfl, hb2⟩
  have A2 := Lib.hid (A1.out.below hb2)
  have B2 := Lib.hid (below_next B1.out hb2)
  clear hb2 c0 c1 c2
  have c0 := A2.out.c0
  have c1 := A2.out.c1
  have c2 := A2.out.c2
  have f0 := A2.out.f 0
  have f1 := A2.out.f 1
  have f2 := A2.out.f 2
  have hz := A2.out.lt
  go_wp2_with fail
  have A3 := Lib.hid ((A2.out.set (n' := n) (s' := t) (e' := e)).setN false)
  have B3 := Lib.hid ((below_setD B2.out (Nat.le_refl _) n t e).setCell (p := ⟨w.heap.size, 0, none⟩) (Nat.le_refl _) (.bool false))
  obtain ⟨W3, hW3⟩ : ∃ W3, W3 = (setD w2 w.heap.size n t e).setCell ⟨w.heap.size, 0, none⟩ (.bool false) := ⟨_, rfl⟩
  rw [← hW3] at A3 B3
  rw [show (((w2.setCell ⟨w.heap.size, 0, none⟩ (.bool n)).setCell ⟨w.heap.size, 1, none⟩ (.string t)).setCell ⟨w.heap.size, 2, none⟩ (.int .i64 e)).setCell ⟨w.heap.size, 0, none⟩ (.bool false) = W3 from hW3.symm]
  clear hW3 c0 c1 c2 f0 f1 f2 hz A0 A1 A2 B0 B1 B2
  refine (HF1.out _ (HT.out.below B3.out)).mono ?_
  rintro o w4 ⟨rfl, hb4⟩
  have A4 := Lib.hid (A3.out.below hb4)
  have B4 := Lib.hid (below_next B3.out hb4)
  clear hb4
  have c0 := A4.out.c0
  have c1 := A4.out.c1
  have c2 := A4.out.c2
  have f0 := A4.out.f 0
  go_wp2_with fail
  have A5 := Lib.hid (A4.out.setN true)
  have B5 := Lib.hid (B4.out.setCell (p := ⟨w.heap.size, 0, none⟩) (Nat.le_refl _) (.bool true))
  obtain ⟨W5, hW5⟩ : ∃ W5, W5 = w4.setCell ⟨w.heap.size, 0, none⟩ (.bool true) := ⟨_, rfl⟩
  rw [← hW5] at A5 B5 ⊢
  clear hW5 c0 c1 c2 f0
  refine (HF2.out _ (HT.out.below B5.out)).mono ?_
  rintro o w6 ⟨rfl, hb6⟩
  have A6 := Lib.hid (A5.out.below hb6)
  have B6 := Lib.hid (below_next B5.out hb6)
  clear hb6
  have c1 := A6.out.c1
  rcases HC.out with ⟨h1, rfl⟩ | ⟨h1, rfl, h2⟩
  · have hq : (t.toList == [48]) = true := by rw [Lib.toList_data, h1]; rfl
    clear h1 HC
    go_wp2
    go_ret
    exact ⟨rfl, B6.out⟩
  · have hq : (t.toList == [48]) = false := by rw [Lib.toList_data]; exact beq_eq_false_iff_ne.2 h1
    have hq' : ¬ t.toList = [48] := by rw [Lib.toList_data]; exact h1
    clear h1 HC
    rcases h2 with ⟨rfl, rfl, hsz⟩ | rfl
    · go_wp2
      go_ret
      exact ⟨rfl, B6.out⟩
    · go_wp2
      go_ret
      exact ⟨rfl, B6.out⟩
end Go.Proofs.YtifccjchpciicaaDoor
