/- The walk of FloatBits. -/
import Derived.Test.YtgcalhnfoakggaaGreatDoorK1
import Derived.Test.YtgcalhnfoakggaaGreatDoorMv
namespace Go.Proofs.YtgcalhnfoakggaaGreatDoor
open Go.RowKit
open Go.Lib (decDigits nDigits)

set_option maxRecDepth 100000 in
set_option maxHeartbeats 400000 in
theorem rOfDec_no (n : Bool) (C : ByteArray) (e : Int) (w : World) (hr : rightD n C.data.toList e = false) : Calls Tryz.prog 21 #[.agg #[.bool n, .string C, .int .i64 e]] w fun r w' => r = .returned (.tuple #[.int .u64 0, .bool false]) ∧ Below w.heap.size w w' := by
  have HRt := Lib.hid (fun W => rRight_p n C e W)
  rw [hr] at HRt
  have B0 := Lib.hid (below_al (Below.refl _ w) (.cells #[.bool n, .string C, .int .i64 e] 34))
  clear hr
  go_enter Tryz.func21, Tryz.ntmps21
  go_wp2_with fail
  refine (HRt.out _).mono ?_
  rintro r w1 ⟨rfl, hb1⟩
  have B1 := Lib.hid (below_next B0.out hb1)
  clear hb1 B0
  go_wp2
  go_ret2
  exact ⟨rfl, B1.out⟩
set_option maxRecDepth 100000 in
set_option maxHeartbeats 400000 in
theorem rOfDec_zero (n : Bool) (e : Int) (w : World) (hr : rightD n [48] e = true) : Calls Tryz.prog 21 #[.agg #[.bool n, .string ⟨#[48]⟩, .int .i64 e]] w fun r w' => r = .returned (.tuple #[.int .u64 0, .bool true]) ∧ Below w.heap.size w w' := by
  have HRt := Lib.hid (fun W => rRight_p n ⟨#[48]⟩ e W)
  rw [show (ByteArray.mk #[48]).data.toList = [48] from rfl, hr] at HRt
  have B0 := Lib.hid (below_al (Below.refl _ w) (.cells #[.bool n, .string ⟨#[48]⟩, .int .i64 e] 34))
  have D0 := Lib.hid (At.new w #[.bool n, .string ⟨#[48]⟩, .int .i64 e] 34)
  clear hr
  go_enter Tryz.func21, Tryz.ntmps21
  go_wp2_with fail
  refine (HRt.out _).mono ?_
  rintro r w1 ⟨rfl, hb1⟩
  have B1 := Lib.hid (below_next B0.out hb1)
  have c1 := (D0.out.below hb1).c 1 rfl
  clear hb1 B0
  go_wp2
  go_ret2
  exact ⟨rfl, B1.out⟩
theorem rOfDec_calls (n : Bool) (s : ByteArray) (e : Int) (w : World) : Calls Tryz.prog 21 #[.agg #[.bool n, .string s, .int .i64 e]] w fun r w' => r = .returned (trV (odR n s e)) ∧ Below w.heap.size w w' := by
  cases hr : rightD n s.data.toList e with
  | false => rw [odR, hr]; exact rOfDec_no n s e w hr
  | true =>
    have hs : decB (dv s.data.toList) = s := str_inj (by rw [decB_data]; exact dec_dv (right_parts hr).1)
    obtain ⟨c, hc⟩ : ∃ c, c = dv s.data.toList := ⟨_, rfl⟩
    rw [← hc] at hs
    subst hs
    rw [decB_data] at hr
    rw [odR, decB_data, hr, if_pos rfl, dv_dec]
    by_cases hc0 : c = 0
    · subst hc0
      have hd : decDigits 0 = [48] := by rw [Lib.decDigits_one (by omega)]; rfl
      rw [hd] at hr
      rw [ofDecR, if_pos rfl, show decB 0 = ⟨#[48]⟩ from str_inj (by rw [decB_data, hd])]
      exact rOfDec_zero n e w hr
    · obtain ⟨M, hM⟩ : ∃ M, M = 100 := ⟨_, rfl⟩
      obtain ⟨_, hcb, he1, he2⟩ := right_c hr hc0
      rw [← hM] at hcb
      by_cases hd : e < 0 ∧ c % 5 ^ (-e).toNat ≠ 0
      · have key := rOfDec_walk n c (decB c) e (-e).toNat 0 1 0 e w rfl hc0 (big_lim hM hcb) he1 he2 rfl hr (fun h => absurd hd h) (by decide) (by decide) (by omega) (fun _ => ⟨he1, by rw [show Nat.log2 1 = 0 from by decide]; omega⟩)
        rw [if_pos hd] at key
        rw [ofDecR, if_neg hc0, if_pos hd]
        exact key
      · obtain ⟨f0, f1, _, _⟩ := fives_right hM hr hc0 hd
        obtain ⟨o, t, hm, ho, ho0, hl, _⟩ := val_big hM f0 f1 e
        have hFl : fives c e < lim := by
          rw [fives]
          split
          · exact Nat.lt_of_le_of_lt (Nat.div_le_self _ _) (big_lim hM hcb)
          · exact fives_lim hM hcb (by omega)
        have key := rOfDec_walk n c (decB c) e (-e).toNat (fives c e) o t (e + t) w rfl hc0 (big_lim hM hcb) he1 he2 rfl hr (fun _ => ⟨rfl, hFl, hm⟩) ho (by omega) rfl (fun _ => ⟨by omega, by omega⟩)
        rw [if_neg hd] at key
        rw [ofDecR, if_neg hc0, if_neg hd, hm, strp2_eq ho (by omega)]
        exact key

/-- A text cut. -/
def cutC (k : Nat) (s : ByteArray) : ByteArray := s.extract 0 (min s.size k)
set_option maxRecDepth 100000 in
set_option maxHeartbeats 400000 in
theorem bits_walk (n : Bool) (s t : ByteArray) (e : Int) (a : Nat) (ok : Bool) (w : World) (hT : Tf w) (ht : t = cutC 150 s) (hs : s.size ≤ maxLen)
    (h1 : Ans 20 #[.agg #[.bool n, .string t, .int .i64 e]] (.tuple #[.int .u64 (a : Int), .bool ok]))
    (h2 : Ans 21 #[.agg #[.bool n, .string t, .int .i64 e]] (.tuple #[.int .u64 (a : Int), .bool ok])) :
    Calls Tryz.prog 5 #[.agg #[.bool n, .string s, .int .i64 e]] w (BoolP true w) := by
  unfold maxLen at hs
  have H1 := Lib.hid h1
  have H2 := Lib.hid h2
  have HT := Lib.hid hT
  have hcut : s.extract 0 (min (s.size : Int) 150).toNat = t := by rw [ht, cutC, ← show (min (s.size : Int) 150).toNat = min s.size 150 from by omega]
  have hcl : (min (s.size : Int) 150) ≤ s.size := by omega
  have hcl0 : 0 ≤ (min (s.size : Int) 150) := by omega
  clear h1 h2 hT ht
  have D0 := Lib.hid (At.new w #[.bool n, .string s, .int .i64 e] 34)
  have B0 := Lib.hid (below_al (Below.refl _ w) (.cells #[.bool n, .string s, .int .i64 e] 34))
  go_enter Tryz.func5, Tryz.ntmps5
  go_wp2_with fail
  refine (shown_calls _ (HT.out.below B0.out)).mono ?_
  rintro o w1 ⟨rfl, hb1⟩
  have D1 := Lib.hid (D0.out.below hb1)
  have B1 := Lib.hid (below_next B0.out hb1)
  clear hb1 B0 D0
  have c0 := D1.out.c 0 rfl
  have c1 := D1.out.c 1 rfl
  have c2 := D1.out.c 2 rfl
  have f1 := D1.out.f 1
  have hz := D1.out.lt
  go_wp2_with fail
  have D2 := Lib.hid (show At (w1.setCell ⟨w.heap.size, 1, none⟩ (.string t)) w.heap.size #[.bool n, .string t, .int .i64 e] 34 from heap_setCell_same w1 w.heap.size 1 _ _ _ D1.out)
  have B2 := Lib.hid (B1.out.setCell (p := ⟨w.heap.size, 1, none⟩) (Nat.le_refl _) (.string t))
  obtain ⟨W2, hW2⟩ : ∃ W2, W2 = w1.setCell ⟨w.heap.size, 1, none⟩ (.string t) := ⟨_, rfl⟩
  rw [← hW2] at D2 B2 ⊢
  clear hW2 c0 c1 c2 f1 hz D1 B1
  refine (H1.out _ (HT.out.below B2.out)).mono ?_
  rintro o w3 ⟨rfl, hb3⟩
  have D3 := Lib.hid (D2.out.below hb3)
  have B3 := Lib.hid (below_next B2.out hb3)
  clear hb3 D2 B2
  have c0 := D3.out.c 0 rfl
  have c1 := D3.out.c 1 rfl
  have c2 := D3.out.c 2 rfl
  go_wp2_with fail
  refine (H2.out _ (HT.out.below B3.out)).mono ?_
  rintro o w4 ⟨rfl, hb4⟩
  have B4 := Lib.hid (below_next B3.out hb4)
  clear hb4 B3
  go_wp2
  go_ret
  exact ⟨rfl, B4.out⟩
theorem trV_split (o : Option Nat) : trV o = .tuple #[.int .u64 ((o.getD 0 : Nat) : Int), .bool o.isSome] := by cases o <;> rfl
theorem bits_laws (n : Bool) (s : ByteArray) (e : Int) (w : World) (hs : s.size ≤ maxLen) (hT : Tf w) : Calls Tryz.prog 5 #[.agg #[.bool n, .string s, .int .i64 e]] w (BoolP true w) := by
  refine bits_walk n s (cutC 150 s) e ((odR n (cutC 150 s) e).getD 0) (odR n (cutC 150 s) e).isSome w hT rfl hs ?_ ?_
  · rw [← trV_split]; exact fun W h => OfDec_calls n _ e W h
  · rw [← trV_split]; exact fun W _ => rOfDec_calls n _ e W
end Go.Proofs.YtgcalhnfoakggaaGreatDoor
