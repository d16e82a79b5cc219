/- The walk of DecSame. -/
import Derived.Test.YtifccjchpciicaaDoorL5
namespace Go.Proofs.YtifccjchpciicaaDoor
open Go.RowKit
open Go.Lib (decDigits nDigits)

set_option maxRecDepth 100000 in
set_option maxHeartbeats 4000000 in
theorem same_no (n : Bool) (s : ByteArray) (e : Int) (z m : Int) (rt : Bool) (w : World) (hT : Tb w)
    (h1 : Ans 15 #[.agg #[.bool n, .string s, .int .i64 e]] (.bool rt))
    (hc : rt = false ∨ (rt = true ∧ (s.size : Int) > 50) ∨ (rt = true ∧ (s.size : Int) ≤ 50 ∧ z < 0) ∨ (rt = true ∧ (s.size : Int) ≤ 50 ∧ 0 ≤ z ∧ 50 < z) ∨ (rt = true ∧ (s.size : Int) ≤ 50 ∧ 0 ≤ z ∧ z ≤ 50 ∧ m < 0) ∨ (rt = true ∧ (s.size : Int) ≤ 50 ∧ 0 ≤ z ∧ z ≤ 50 ∧ 0 ≤ m ∧ 50 < m)) :
    Calls Tryd.prog 6 #[.agg #[.bool n, .string s, .int .i64 e], .int .i64 z, .int .i64 m] w (BoolP true w) := by
  have H1 := Lib.hid h1
  have HC := Lib.hid hc
  have HT := Lib.hid hT
  clear h1 hc hT
  go_enter Tryd.func6, Tryd.ntmps6
  go_wp2_with fail
  have A0 := Lib.hid (DecAt.new w n s e)
  have B0 := Lib.hid ((Below.refl _ w).alloc (Nat.le_refl _) (.cells #[.bool n, .string s, .int .i64 e] 23))
  refine (shown_calls _ (HT.out.below B0.out)).mono ?_
  rintro o w1 ⟨rfl, hb1⟩
  have A1 := Lib.hid (A0.out.below hb1)
  have B1 := Lib.hid (below_next B0.out hb1)
  have c0 := A1.out.c0
  have c1 := A1.out.c1
  have c2 := A1.out.c2
  clear hb1
  go_wp2_with fail
  refine (H1.out _ (HT.out.below B1.out)).mono ?_
  rintro o w2 ⟨rfl, hb2⟩
  have A2 := Lib.hid (A1.out.below hb2)
  have B2 := Lib.hid (below_next B1.out hb2)
  clear hb2 c0 c1 c2
  have c0 := A2.out.c0
  have c1 := A2.out.c1
  have c2 := A2.out.c2
  rcases HC.out with rfl | ⟨rfl, g1⟩ | ⟨rfl, g1, g2⟩ | ⟨rfl, g1, g2, g3⟩ | ⟨rfl, g1, g2, g3, g4⟩ | ⟨rfl, g1, g2, g3, g4, g5⟩
  all_goals
    clear HC
    go_wp2
    go_ret
    exact ⟨rfl, B2.out⟩

theorem ext_size_le (s : ByteArray) (a b : Nat) : (s.extract a b).size ≤ s.size := by rw [ByteArray.size_extract]; omega
theorem numB_size_le {x : Int} (h1 : -9999 ≤ x) (h2 : x ≤ 9999) : (numB x).size ≤ 5 := by
  rw [Lib.size_eq, numB_data]; exact numL_len h1 h2
theorem sg_1 : ∀ l : List UInt8, (⟨#[45]⟩ : ByteArray).data.toList ++ l = sgL true l := fun _ => rfl
theorem sg_0 : ∀ l : List UInt8, (⟨#[]⟩ : ByteArray).data.toList ++ l = sgL false l := fun _ => rfl
/-- The text that the law reads: with a point, and without. -/
theorem same_pt {n : Bool} {s sg : ByteArray} {e x : Int} {p : Nat} (h : rightD n s.data.toList e = true) (hsg : ∀ l, sg.data.toList ++ l = sgL n l) (h1 : 1 ≤ p) (h2 : p < s.size) (hx : x = e + (s.size - p : Nat)) :
    parseR (sg ++ s.extract 0 p ++ ⟨#[46]⟩ ++ s.extract p s.size ++ ⟨#[69]⟩ ++ numB x).data.toList = some ((n, dv s.data.toList, e), []) := by
  have hl : s.data.toList.length = s.size := (Lib.size_eq s).symm
  have hlt : p < s.data.toList.length := by omega
  have := parse_moved h h1 hlt
  rw [hl, ← hx, ← numB_data, ← hsg] at this
  rw [← this]
  simp only [app_data, ByteArray.data_extract, Array.toList_extract, List.extract, List.append_assoc]
  congr 2
  simp only [List.drop_zero, Nat.sub_zero, List.singleton_append]
  rw [List.take_of_length_le (l := List.drop p s.data.toList) (by rw [List.length_drop]; omega)]
theorem same_st {n : Bool} {s sg : ByteArray} {e x : Int} {p : Nat} (h : rightD n s.data.toList e = true) (hsg : ∀ l, sg.data.toList ++ l = sgL n l) (h2 : p = s.size) (hx : x = e) :
    parseR (sg ++ s.extract 0 p ++ ⟨#[69]⟩ ++ numB x).data.toList = some ((n, dv s.data.toList, e), []) := by
  have := parse_still h
  rw [← numB_data, ← hsg] at this
  rw [← this, h2, hx, show s.extract 0 s.size = s from ext_all s]
  simp only [app_data, List.append_assoc]
  rfl

theorem sz_1 : (⟨#[45]⟩ : ByteArray).size ≤ 1 := Nat.le_refl _
theorem sz_0 : (⟨#[]⟩ : ByteArray).size ≤ 1 := Nat.zero_le _
theorem same_pt2 {n : Bool} {s sg : ByteArray} {e x : Int} {p : Nat} (h : rightD n s.data.toList e = true) (hsg : ∀ l, sg.data.toList ++ l = sgL n l) (h1 : 1 ≤ p) (h2 : p < s.size) (hx : x = e + (s.size - p : Nat)) (hs : s.size ≤ 50) (hg : sg.size ≤ 1) (hx1 : -9999 ≤ x) (hx2 : x ≤ 9999) :
    parseR (sg ++ s.extract 0 p ++ ⟨#[46]⟩ ++ s.extract p s.size ++ ⟨#[69]⟩ ++ numB x).data.toList = some ((n, dv s.data.toList, e), []) ∧ (sg ++ s.extract 0 p ++ ⟨#[46]⟩ ++ s.extract p s.size ++ ⟨#[69]⟩ ++ numB x).size ≤ 100000 := by
  refine ⟨same_pt h hsg h1 h2 hx, ?_⟩
  have e1 := ext_size_le s 0 p
  have e2 := ext_size_le s p s.size
  have e3 := numB_size_le hx1 hx2
  have e4 : (⟨#[46]⟩ : ByteArray).size = 1 := rfl
  have e5 : (⟨#[69]⟩ : ByteArray).size = 1 := rfl
  rw [ByteArray.size_append, ByteArray.size_append, ByteArray.size_append, ByteArray.size_append, ByteArray.size_append]
  omega
theorem same_st2 {n : Bool} {s sg : ByteArray} {e x : Int} {p : Nat} (h : rightD n s.data.toList e = true) (hsg : ∀ l, sg.data.toList ++ l = sgL n l) (h2 : p = s.size) (hx : x = e) (hs : s.size ≤ 50) (hg : sg.size ≤ 1) (hx1 : -9999 ≤ x) (hx2 : x ≤ 9999) :
    parseR (sg ++ s.extract 0 p ++ ⟨#[69]⟩ ++ numB x).data.toList = some ((n, dv s.data.toList, e), []) ∧ (sg ++ s.extract 0 p ++ ⟨#[69]⟩ ++ numB x).size ≤ 100000 := by
  refine ⟨same_st h hsg h2 hx, ?_⟩
  have e1 := ext_size_le s 0 p
  have e3 := numB_size_le hx1 hx2
  have e5 : (⟨#[69]⟩ : ByteArray).size = 1 := rfl
  rw [ByteArray.size_append, ByteArray.size_append, ByteArray.size_append]
  omega

set_option maxRecDepth 100000 in
set_option maxHeartbeats 4000000 in
theorem same_walk (n : Bool) (s : ByteArray) (e : Int) (z m : Nat) (w : World) (hT : Tb w) (he1 : -1000 ≤ e) (he2 : e ≤ 1000) (hs0 : 1 ≤ s.size) (hs : s.size ≤ 50) (hz : z ≤ 50) (hm : m ≤ 50)
    (h1 : Ans 15 #[.agg #[.bool n, .string s, .int .i64 e]] (.bool true))
    (h2 : Ans 12 #[.bool n, .string (zerB z ++ s ++ zerB z), .int .i64 (e - z)] (.tuple #[.agg #[.bool n, .string s, .int .i64 e], .int .i64 0]))
    (hr : rightD n s.data.toList e = true)
    (hp : ∀ T : ByteArray, parseR T.data.toList = some ((n, dv s.data.toList, e), []) ∧ T.size ≤ 100000 → Ans 17 #[.string T] (.tuple #[.agg #[.bool n, .string s, .int .i64 e], .string ⟨#[]⟩, .int .i64 0])) :
    Calls Tryd.prog 6 #[.agg #[.bool n, .string s, .int .i64 e], .int .i64 z, .int .i64 m] w (BoolP true w) := by
  have H1 := Lib.hid h1
  have H2 := Lib.hid h2
  have HR := Lib.hid hr
  have HP := Lib.hid hp
  have HT := Lib.hid hT
  clear h1 h2 hT hr hp
  go_enter Tryd.func6, Tryd.ntmps6
  go_wp2_with fail
  have A0 := Lib.hid (DecAt.new w n s e)
  have B0 := Lib.hid ((Below.refl _ w).alloc (Nat.le_refl _) (.cells #[.bool n, .string s, .int .i64 e] 23))
  refine (shown_calls _ (HT.out.below B0.out)).mono ?_
  rintro o w1 ⟨rfl, hb1⟩
  have A1 := Lib.hid (A0.out.below hb1)
  have B1 := Lib.hid (below_next B0.out hb1)
  have c0 := A1.out.c0
  have c1 := A1.out.c1
  have c2 := A1.out.c2
  clear hb1
  go_wp2_with fail
  refine (H1.out _ (HT.out.below B1.out)).mono ?_
  rintro o w2 ⟨rfl, hb2⟩
  have A2 := Lib.hid (A1.out.below hb2)
  have B2 := Lib.hid (below_next B1.out hb2)
  clear hb2 c0 c1 c2 A0 A1 B0 B1
  have c0 := A2.out.c0
  have c1 := A2.out.c1
  have c2 := A2.out.c2
  go_wp2
  go_loop [8, 9] (fun v i => ∃ k : Nat, i = .int .i64 k ∧ v = .string (zerB k) ∧ k ≤ z) (fun _ i => z - (intOf i).toNat)
  case atStart => exact ⟨0, rfl, rfl, by omega⟩
  case round =>
    obtain ⟨k, rfl, rfl, hk⟩ := hrel
    have hsz := zerB_size k
    by_cases hlt : k < z
    · have HS := Lib.hid (zerB_succ k)
      have hlt' : (k : Int) < (z : Int) := by omega
      go_wp2
      go_round
      case rel => exact ⟨k + 1, by go_num, by rw [← HS.out], by omega⟩
      case measure => simp [intOf]; omega
    · obtain rfl : k = z := by omega
      clear hlt hk
      go_wp2_with fail
      refine (H2.out _ (HT.out.below B2.out)).mono ?_
      rintro o w3 ⟨rfl, hb3⟩
      have A3 := Lib.hid ((A2.out.below hb3).alloc (.cells #[.bool n, .string s, .int .i64 e] 23))
      have X3 := Lib.hid (DecAt.new w3 n s e)
      have B3 := Lib.hid ((below_next B2.out hb3).alloc (below_next B2.out hb3).size (.cells #[.bool n, .string s, .int .i64 e] 23))
      clear hb3 c0 c1 c2
      have c0 := A3.out.c0
      have c1 := A3.out.c1
      have c2 := A3.out.c2
      have x0 := X3.out.c0
      have x1 := X3.out.c1
      have x2 := X3.out.c2
      obtain ⟨p, hmax, hp1, hp2⟩ : ∃ p : Nat, max (1 : Int) ((s.size : Int) - (m : Int)) = (p : Int) ∧ 1 ≤ p ∧ p ≤ s.size := ⟨max 1 (s.size - m), by omega, by omega, by omega⟩
      have hcs : n = true ∨ n = false := by cases n <;> simp
      rcases hcs with rfl | rfl
      all_goals
        go_wp2_with fail
      all_goals
        refine (num_calls _ _ (by omega) (by omega)).mono ?_
        rintro o w4 ⟨rfl, hb4⟩
        have A4 := Lib.hid (A3.out.below hb4)
        have X4 := Lib.hid (X3.out.below hb4)
        have B4 := Lib.hid (below_next B3.out hb4)
        clear hb4 c0 c1 c2 x0 x1 x2 A3 B3 X3
        have hl1 := ext_size_le s 0 p
        have hl2 := ext_size_le s p s.size
        have hl5 := numB_size_le (x := e + ((s.size : Int) - (p : Int))) (by omega) (by omega)
        go_wp2_with fail
      all_goals
        clear hl1 hl2 hl5
        refine (HP.out _ ?side _ (HT.out.below B4.out)).mono ?_
        case side =>
          first
            | (with_reducible refine same_pt2 HR.out ?_ ?_ ?_ ?_ ?_ ?_ ?_ ?_)
            | (with_reducible refine same_st2 HR.out ?_ ?_ ?_ ?_ ?_ ?_ ?_)
          all_goals first
            | exact sg_1
            | exact sg_0
            | omega
            | exact sz_1
            | exact sz_0
        rintro o w5 ⟨rfl, hb5⟩
        first
            | (have A5 : Hid (DecAt (w5.alloc (.cells #[.bool true, .string s, .int .i64 e] 23)) w.heap.size true s e) := Lib.hid ((A4.out.below hb5).alloc _)
               have X5 : Hid (DecAt (w5.alloc (.cells #[.bool true, .string s, .int .i64 e] 23)) w3.heap.size true s e) := Lib.hid ((X4.out.below hb5).alloc _)
               have Y5 : Hid (DecAt (w5.alloc (.cells #[.bool true, .string s, .int .i64 e] 23)) w5.heap.size true s e) := Lib.hid (DecAt.new w5 true s e)
               have B5 := Lib.hid ((below_next B4.out hb5).alloc (below_next B4.out hb5).size (.cells #[.bool true, .string s, .int .i64 e] 23)))
            | (have A5 : Hid (DecAt (w5.alloc (.cells #[.bool false, .string s, .int .i64 e] 23)) w.heap.size false s e) := Lib.hid ((A4.out.below hb5).alloc _)
               have X5 : Hid (DecAt (w5.alloc (.cells #[.bool false, .string s, .int .i64 e] 23)) w3.heap.size false s e) := Lib.hid ((X4.out.below hb5).alloc _)
               have Y5 : Hid (DecAt (w5.alloc (.cells #[.bool false, .string s, .int .i64 e] 23)) w5.heap.size false s e) := Lib.hid (DecAt.new w5 false s e)
               have B5 := Lib.hid ((below_next B4.out hb5).alloc (below_next B4.out hb5).size (.cells #[.bool false, .string s, .int .i64 e] 23)))
        clear hb5 A4 X4 B4
        have c0 := A5.out.c0
        have c1 := A5.out.c1
        have c2 := A5.out.c2
        have x0 := X5.out.c0
        have x1 := X5.out.c1
        have x2 := X5.out.c2
        have y0 := Y5.out.c0
        have y1 := Y5.out.c1
        have y2 := Y5.out.c2
        go_wp2
        go_ret
        exact ⟨rfl, B5.out⟩

theorem same_calls (n : Bool) (s : ByteArray) (e z m : Int) (w : World) (hT : Tb w) : Calls Tryd.prog 6 #[.agg #[.bool n, .string s, .int .i64 e], .int .i64 z, .int .i64 m] w (BoolP true w) := by
  cases hr : rightD n s.data.toList e with
  | false => exact same_no n s e z m false w hT (fun W hW => hr ▸ Right_calls n s e W hW) (.inl rfl)
  | true =>
    have h1 : Ans 15 #[.agg #[.bool n, .string s, .int .i64 e]] (.bool true) := fun W hW => hr ▸ Right_calls n s e W hW
    by_cases hg : (s.size : Int) ≤ 50 ∧ 0 ≤ z ∧ z ≤ 50 ∧ 0 ≤ m ∧ m ≤ 50
    · obtain ⟨g1, g2, g3, g4, g5⟩ := hg
      obtain ⟨k, rfl⟩ : ∃ k : Nat, z = k := ⟨z.toNat, by omega⟩
      obtain ⟨j, rfl⟩ : ∃ j : Nat, m = j := ⟨m.toNat, by omega⟩
      obtain ⟨q1, q2, q3, q4⟩ := right_parts hr
      obtain ⟨k1, k2, k3, k4⟩ := isNat_parts q1
      have hl : s.data.toList.length = s.size := (Lib.size_eq s).symm
      have hs0 : 1 ≤ s.size := by
        rw [← hl]; exact List.length_pos_iff.2 k1
      have hmk : makeR n (zerB k ++ s ++ zerB k).data.toList (e - k) = some (n, dv s.data.toList, e) :=
        make_right (p := k) (z := k) hr (by rw [app_data, app_data, zerB_data]) (by rw [app_data, app_data, zerB_data, List.length_append, List.length_append, List.length_replicate, hl]; omega) rfl (by omega) (by omega) (by omega)
      refine same_walk n s e k j w hT (by omega) (by omega) hs0 (by omega) (by omega) (by omega) h1 ?_ hr ?_
      · intro W hW
        refine (Make_calls _ _ _ W (by rw [ByteArray.size_append, ByteArray.size_append, zerB_size]; omega) hW).mono ?_
        rintro o w' ⟨rfl, hb⟩
        exact ⟨by rw [hmk]; show _ = Ending.returned (.tuple #[.agg #[.bool n, .string s, .int .i64 e], .int .i64 0]); rw [← right_decB hr]; simp only [right_decB hr]; rw [show dS (some (n, dv s.data.toList, e)) = s from right_decB hr]; rfl, hb⟩
      · intro T hp W hW
        refine (Parse_calls T W hp.2 hW).mono ?_
        rintro o w' ⟨rfl, hb⟩
        exact ⟨by rw [hp.1, show dS (pD (some ((n, dv s.data.toList, e), []))) = s from right_decB hr]; rfl, hb⟩
    · refine same_no n s e z m true w hT h1 (.inr ?_)
      simp only [eq_self, true_and]
      omega
end Go.Proofs.YtifccjchpciicaaDoor
