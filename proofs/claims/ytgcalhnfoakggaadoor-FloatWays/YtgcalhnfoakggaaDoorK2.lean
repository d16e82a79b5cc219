/- The walk of FloatWays. -/
import Derived.Test.YtgcalhnfoakggaaDoorK1
namespace Go.Proofs.YtgcalhnfoakggaaDoor
open Go.RowKit
open Go.Lib (decDigits nDigits)

theorem ans_nar {b : Nat} (wd : Int) (hb : b < 18446744073709551616) : Ans 15 #[.int .u64 (b : Int), .int .i64 wd] (trV (narO b wd)) := fun W h => Narrow_calls b wd W hb h.1
theorem ans_wid {b : Nat} (wd : Int) (hb : b < 18446744073709551616) : Ans 16 #[.int .u64 (b : Int), .int .i64 wd] (wdV (widO b wd)) := fun W h => Widen_calls b wd W hb h.1

set_option maxRecDepth 100000 in
set_option maxHeartbeats 400000 in
theorem ways_walk (b g h wide c a b32 : Nat) (ok is : Bool) (w : World) (hT : Tf w) (hg : bits .and .u64 (g : Int) 65535 = (h : Int))
    (h1 : Ans 15 #[.int .u64 (b : Int), .int .i64 16] (.tuple #[.int .u64 (a : Int), .bool ok]))
    (h2 : Ans 15 #[.int .u64 (b : Int), .int .i64 32] (.tuple #[.int .u64 (b32 : Int), .bool is]))
    (h3 : Ans 16 #[.int .u64 (h : Int), .int .i64 16] (.tuple #[.int .u64 (wide : Int), .int .i64 0]))
    (h4 : Ans 15 #[.int .u64 (wide : Int), .int .i64 32] (.tuple #[.int .u64 (c : Int), .bool true]))
    (h5 : Ans 16 #[.int .u64 (c : Int), .int .i64 32] (.tuple #[.int .u64 (wide : Int), .int .i64 0]))
    (h6 : ok = true → is = true ∧ Ans 16 #[.int .u64 (b32 : Int), .int .i64 32] (.tuple #[.int .u64 (b : Int), .int .i64 0])) :
    Calls Tryd.prog 6 #[.int .u64 (b : Int), .int .u64 (g : Int)] w (BoolP true w) := by
  have H1 := Lib.hid h1
  have H2 := Lib.hid h2
  have H3 := Lib.hid h3
  have H4 := Lib.hid h4
  have H5 := Lib.hid h5
  have H6 := Lib.hid h6
  have HT := Lib.hid hT
  clear h1 h2 h3 h4 h5 h6 hT
  go_enter Tryd.func6, Tryd.ntmps6
  go_wp2_with fail
  refine (shown_calls _ HT.out).mono ?_
  rintro o w1 ⟨rfl, hb1⟩
  have B1 := Lib.hid hb1
  clear hb1
  go_wp2_with fail
  refine (H1.out _ (HT.out.below B1.out)).mono ?_
  rintro o w2 ⟨rfl, hb2⟩
  have B2 := Lib.hid (below_next B1.out hb2)
  clear hb2 B1
  go_wp2_with fail
  refine (H2.out _ (HT.out.below B2.out)).mono ?_
  rintro o w3 ⟨rfl, hb3⟩
  have B3 := Lib.hid (below_next B2.out hb3)
  clear hb3 B2
  go_wp2_with fail
  refine (H3.out _ (HT.out.below B3.out)).mono ?_
  rintro o w4 ⟨rfl, hb4⟩
  have B4 := Lib.hid (below_next B3.out hb4)
  clear hb4 B3
  go_wp2_with fail
  refine (H4.out _ (HT.out.below B4.out)).mono ?_
  rintro o w5 ⟨rfl, hb5⟩
  have B5 := Lib.hid (below_next B4.out hb5)
  clear hb5 B4
  go_wp2_with fail
  refine (H5.out _ (HT.out.below B5.out)).mono ?_
  rintro o w6 ⟨rfl, hb6⟩
  have B6 := Lib.hid (below_next B5.out hb6)
  clear hb6 B5
  cases ok
  · go_wp2
    go_ret
    exact ⟨rfl, B6.out⟩
  · obtain ⟨rfl, h7⟩ := H6.out rfl
    have H7 := Lib.hid h7
    clear h7 H6
    go_wp2_with fail
    refine (H7.out _ (HT.out.below B6.out)).mono ?_
    rintro o w7 ⟨rfl, hb7⟩
    have B7 := Lib.hid (below_next B6.out hb7)
    clear hb7 B6
    go_wp2_with fail
    refine (H1.out _ (HT.out.below B7.out)).mono ?_
    rintro o w8 ⟨rfl, hb8⟩
    have B8 := Lib.hid (below_next B7.out hb8)
    clear hb8 B7
    go_wp2
    go_ret
    exact ⟨rfl, B8.out⟩

theorem trV_some {o : Option Nat} {c : Nat} (h : o = some c) : trV o = .tuple #[.int .u64 (c : Int), .bool true] := by rw [h]; rfl
theorem trV_parts (o : Option Nat) : trV o = .tuple #[.int .u64 ((o.getD 0 : Nat) : Int), .bool o.isSome] := by cases o <;> rfl
theorem wdV_some {o : Option Nat} {c : Nat} (h : o = some c) : wdV o = .tuple #[.int .u64 (c : Int), .int .i64 0] := by rw [h]; rfl
theorem nar_lt {a b : Nat} {w : Int} (ha : a < 18446744073709551616) (h : narO a w = some b) : b < 18446744073709551616 := by
  rw [narO] at h
  split at h
  · split at h
    · rename_i h1; cases h; exact Nat.lt_trans (nar_lt16 ha h1) (by decide)
    · cases h
  · split at h
    · split at h
      · rename_i h1; cases h; exact Nat.lt_trans (nar_lt32 ha h1) (by decide)
      · cases h
    · split at h
      · cases h; exact ha
      · cases h
theorem ways_calls (b g : Nat) (w : World) (hb : b < 18446744073709551616) (hg : g < 18446744073709551616) (hT : Tf w) :
    Calls Tryd.prog 6 #[.int .u64 (b : Int), .int .u64 (g : Int)] w (BoolP true w) := by
  obtain ⟨h, hh⟩ : ∃ h, h = g % 65536 := ⟨_, rfl⟩
  have hh2 : h < 65536 := by omega
  have hand : bits .and .u64 (g : Int) 65535 = (h : Int) := by rw [hh]; exact and_64 g 16 65535 (by decide) (by decide) hg _ _ rfl rfl
  have hw := (nar_wid16 hh2).2
  have hwo : widO h 16 = some (wid16 h) := by rw [widO, if_pos rfl, if_pos hh2]
  have hn : narO (wid16 h) 32 = some (nar32 (wid16 h)) := by rw [narO, if_neg (by decide), if_pos rfl, if_pos (wid_16_32 hh2)]
  have hc := nar_lt hw hn
  refine ways_walk b g h (wid16 h) (nar32 (wid16 h)) ((narO b 16).getD 0) ((narO b 32).getD 0) (narO b 16).isSome (narO b 32).isSome w hT hand ?_ ?_ ?_ ?_ ?_ ?_
  · rw [← trV_parts]; exact ans_nar 16 hb
  · rw [← trV_parts]; exact ans_nar 32 hb
  · rw [← wdV_some hwo]; exact ans_wid 16 (by omega)
  · rw [← trV_some hn]; exact ans_nar 32 hw
  · rw [← wdV_some (wid_of_nar hw hn)]; exact ans_wid 32 hc
  · intro hs
    have h16 : wid16 (nar16 b) = b := by
      rw [narO, if_pos rfl] at hs
      split at hs
      · assumption
      · cases hs
    have h32 : narO b 32 = some (nar32 b) := by rw [narO, if_neg (by decide), if_pos rfl, if_pos (nar_16_32 hb h16)]
    rw [h32]
    refine ⟨rfl, ?_⟩
    show Ans _ #[.int .u64 ((nar32 b : Nat) : Int), .int .i64 32] _
    rw [← wdV_some (wid_of_nar hb h32)]
    exact ans_wid 32 (nar_lt hb h32)
end Go.Proofs.YtgcalhnfoakggaaDoor
