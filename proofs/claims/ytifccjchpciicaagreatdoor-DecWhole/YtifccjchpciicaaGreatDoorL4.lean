/- The walk of DecWhole. -/
import Derived.Test.YtifccjchpciicaaGreatDoorL2
namespace Go.Proofs.YtifccjchpciicaaGreatDoor
open Go.RowKit
open Go.Lib (decDigits nDigits)

theorem decB_20 {k : Nat} (h : k < 18446744073709551616) : (decB k).size ≤ 20 := decB_size h

set_option maxRecDepth 100000 in
set_option maxHeartbeats 2000000 in
theorem whole_walk (neg : Bool) (k : Nat) (m : Bool) (d f : ByteArray) (x : Int) (w : World) (hk : k < 18446744073709551616) (hT : Tb w)
    (h1 : Ans 9 #[.bool neg, .int .u64 (k : Int)] (.agg #[.bool m, .string d, .int .i64 x]))
    (h2 : Ans 7 #[.agg #[.bool m, .string d, .int .i64 x]] (.tuple #[.bool m, .int .u64 (k : Int), .bool true]))
    (h3 : Ans 11 #[.agg #[.bool m, .string d, .int .i64 x]] (.tuple #[.string f, .int .i64 0]))
    (hc : (neg = true ∧ 0 < k ∧ m = true ∧ f = ⟨#[45]⟩ ++ decB k) ∨ (neg = true ∧ k = 0 ∧ m = false ∧ f = decB k) ∨ (neg = false ∧ m = false ∧ f = decB k)) :
    Calls Tryz.prog 4 #[.bool neg, .int .u64 (k : Int)] w (BoolP true w) := by
  have hsz := decB_20 hk
  have HO := Lib.hid (fun W => rOf_calls k W hk)
  have H1 := Lib.hid h1
  have H2 := Lib.hid h2
  have H3 := Lib.hid h3
  have HC := Lib.hid hc
  have HT := Lib.hid hT
  clear h1 h2 h3 hc hT hk
  go_enter Tryz.func4, Tryz.ntmps4
  go_wp2_with fail
  refine (shown_calls _ HT.out).mono ?_
  rintro o w1 ⟨rfl, hb1⟩
  have B1 := Lib.hid hb1
  clear hb1
  go_wp2_with fail
  refine (H1.out _ (HT.out.below B1.out)).mono ?_
  rintro o w2 ⟨rfl, hb2⟩
  have A2 := Lib.hid (DecAt.new w2 m d x)
  have B2 := Lib.hid ((below_next B1.out hb2).alloc (below_next B1.out hb2).size (.cells #[.bool m, .string d, .int .i64 x] 24))
  clear hb2
  go_wp2_with fail
  refine (H2.out _ (HT.out.below B2.out)).mono ?_
  rintro o w3 ⟨rfl, hb3⟩
  have A3 := Lib.hid (A2.out.below hb3)
  have B3 := Lib.hid (below_next B2.out hb3)
  clear hb3
  have c0 := A3.out.c0
  have c1 := A3.out.c1
  have c2 := A3.out.c2
  go_wp2_with fail
  refine (H3.out _ (HT.out.below B3.out)).mono ?_
  rintro o w4 ⟨rfl, hb4⟩
  have A4 := Lib.hid (A3.out.below hb4)
  have B4 := Lib.hid (below_next B3.out hb4)
  clear hb4 c0 c1 c2
  go_wp2_with fail
  refine (HO.out _).mono ?_
  rintro o w5 ⟨rfl, hb5⟩
  have B5 := Lib.hid (below_next B4.out hb5)
  have A5 := Lib.hid (A4.out.below hb5)
  clear hb5
  have c2 := A5.out.c2
  rcases HC.out with ⟨rfl, h, rfl, rfl⟩ | ⟨rfl, rfl, rfl, rfl⟩ | ⟨rfl, rfl, rfl⟩
  · have hi : (0 : Int) < (k : Int) := by omega
    clear HC
    go_wp2
    go_ret
    exact ⟨rfl, B5.out⟩
  · clear HC
    go_wp2
    go_ret
    exact ⟨rfl, B5.out⟩
  · clear HC
    go_wp2
    go_ret
    exact ⟨rfl, B5.out⟩

theorem whole_calls (neg : Bool) (k : Nat) (w : World) (hk : k < 18446744073709551616) (hT : Tb w) : Calls Tryz.prog 4 #[.bool neg, .int .u64 (k : Int)] w (BoolP true w) := by
  obtain ⟨m, a, e, h1, h2, h3, h4, _, _, h7⟩ := whole (n := neg) hk
  have hf : fS m (decB a) e = sgnB m (decB k) := by
    rw [fS, decB_data, if_pos h4]
    exact str_inj (by rw [sgnB_data, sgnB_data, fmtB_data, decB_data, decB_data, h7])
  have he : fE m (decB a) e = 0 := by rw [fE, decB_data, if_pos h4]
  refine whole_walk neg k m (decB a) (sgnB m (decB k)) e w hk hT ?_ ?_ ?_ ?_
  · intro W hW
    refine (OfInt_calls neg k W hk hW).mono ?_
    rintro o w' ⟨rfl, hb⟩
    exact ⟨by rw [h1]; rfl, hb⟩
  · intro W hW
    refine (ToInt_calls m (decB a) e W hW).mono ?_
    rintro o w' ⟨rfl, hb⟩
    exact ⟨by rw [decB_data, h3]; rfl, hb⟩
  · intro W hW
    refine (Format_calls m (decB a) e W hW).mono ?_
    rintro o w' ⟨rfl, hb⟩
    exact ⟨by rw [hf, he], hb⟩
  · cases neg with
    | true =>
      by_cases h0 : 0 < k
      · refine .inl ⟨rfl, h0, by rw [h2]; simpa using h0, ?_⟩
        rw [show m = true from by rw [h2]; simpa using h0]; rfl
      · refine .inr (.inl ⟨rfl, by omega, by rw [h2]; simpa using h0, ?_⟩)
        rw [show m = false from by rw [h2]; simpa using h0]; rfl
    | false =>
      have hm : m = false := by rw [h2]; rfl
      exact .inr (.inr ⟨rfl, hm, by rw [hm]; rfl⟩)
end Go.Proofs.YtifccjchpciicaaGreatDoor
