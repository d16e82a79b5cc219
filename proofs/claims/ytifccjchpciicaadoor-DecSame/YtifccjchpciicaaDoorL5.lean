/- The walk of DecBack. -/
import Derived.Test.YtifccjchpciicaaDoorL4
namespace Go.Proofs.YtifccjchpciicaaDoor
open Go.RowKit
open Go.Lib (decDigits nDigits)

theorem right_dec {n : Bool} {l : List UInt8} {e : Int} (h : rightD n l e = true) : decDigits (dv l) = l := by
  by_cases h0 : l = [48]
  · rw [h0, show dv [48] = 0 from by decide]; rw [Lib.decDigits_one (by omega)]; rfl
  · exact (right_num h h0).1
theorem right_decB {n : Bool} {s : ByteArray} {e : Int} (h : rightD n s.data.toList e = true) : decB (dv s.data.toList) = s :=
  str_inj (by rw [decB_data, right_dec h])
theorem fE_cases (n : Bool) (s : ByteArray) (e : Int) : (fE n s e = 0 ∧ rightD n s.data.toList e = true) ∨ (fE n s e = 40 ∧ rightD n s.data.toList e = false) := by
  cases h : rightD n s.data.toList e with
  | true => exact .inl ⟨by rw [fE, if_pos h], rfl⟩
  | false => exact .inr ⟨by rw [fE, h]; rfl, rfl⟩
theorem fS_data {n : Bool} {s : ByteArray} {e : Int} (h : rightD n s.data.toList e = true) : (fS n s e).data.toList = sgL n (fmtL s.data.toList e) := by
  rw [fS, if_pos h, sgnB_data, fmtB_data]
/-- What is written is read again, with what stands behind. -/
theorem read_fmt {n : Bool} {s : ByteArray} {e : Int} (h : rightD n s.data.toList e = true) {t : ByteArray} (ht : Stop t.data.toList) : parseR (fS n s e ++ t).data.toList = some ((n, dv s.data.toList, e), t.data.toList) := by
  rw [app_data, fS_data h]
  exact parse_fmt h ht

set_option maxRecDepth 100000 in
set_option maxHeartbeats 4000000 in
theorem back_walk (n : Bool) (s : ByteArray) (e : Int) (u : ByteArray) (t a : ByteArray) (ev : Int) (bn : Bool) (bs : ByteArray) (bx : Int) (br : ByteArray) (f : Int) (rt : Bool) (xn : Bool) (xs : ByteArray) (xx : Int) (xr : ByteArray) (g : Int) (tt : ByteArray) (h : Int) (yn : Bool) (ys : ByteArray) (yx : Int) (more : ByteArray) (i : Int) (w : World) (hT : Tb w)
    (CC : ∀ W, Calls Tryd.prog 9 #[.agg #[.bool n, .string s, .int .i64 e]] W fun o w' => o = .returned (.agg #[.bool n, .string t, .int .i64 e]) ∧ Below W.heap.size W w')
    (h1 : Ans 10 #[.agg #[.bool n, .string t, .int .i64 e]] (.tuple #[.string a, .int .i64 ev]))
    (h2 : Ans 17 #[.string (a ++ ⟨#[44, 49]⟩)] (.tuple #[.agg #[.bool bn, .string bs, .int .i64 bx], .string br, .int .i64 f]))
    (h3 : Ans 15 #[.agg #[.bool n, .string t, .int .i64 e]] (.bool rt))
    (h4 : Ans 17 #[.string (cutB 420 u)] (.tuple #[.agg #[.bool xn, .string xs, .int .i64 xx], .string xr, .int .i64 g]))
    (h5 : Ans 10 #[.agg #[.bool xn, .string xs, .int .i64 xx]] (.tuple #[.string tt, .int .i64 h]))
    (h6 : Ans 17 #[.string tt] (.tuple #[.agg #[.bool yn, .string ys, .int .i64 yx], .string more, .int .i64 i]))
    (hsz : a.size ≤ 300)
    (hc1 : (ev = 0 ∧ rt = true ∧ f = 0 ∧ n = bn ∧ t = bs ∧ e = bx ∧ br = ⟨#[44, 49]⟩) ∨ (ev = 40 ∧ rt = false))
    (hc2 : (g = 0 ∧ h = 0 ∧ i = 0 ∧ xn = yn ∧ xs = ys ∧ xx = yx ∧ more = ⟨#[]⟩) ∨ g = 40) :
    Calls Tryd.prog 5 #[.agg #[.bool n, .string s, .int .i64 e], .string u] w (BoolP true w) := by
  have H1 := Lib.hid h1
  have H2 := Lib.hid h2
  have H3 := Lib.hid h3
  have H4 := Lib.hid h4
  have H5 := Lib.hid h5
  have H6 := Lib.hid h6
  have C1 := Lib.hid hc1
  have C2 := Lib.hid hc2
  have HT := Lib.hid hT
  have HCC := Lib.hid CC
  clear h1 h2 h3 h4 h5 h6 hc1 hc2 hT CC
  go_enter Tryd.func5, Tryd.ntmps5
  go_wp2_with fail
  have A0 := Lib.hid (DecAt.new w n s e)
  have B0 := Lib.hid ((Below.refl _ w).alloc (Nat.le_refl _) (.cells #[.bool n, .string s, .int .i64 e] 23))
  refine (shown_calls _ (HT.out.below B0.out)).mono ?_
  rintro o w1 ⟨rfl, hb1⟩
  have A1 := Lib.hid (A0.out.below hb1)
  have B1 := Lib.hid (below_next B0.out hb1)
  have c0 := A1.out.c0
  have c1 := A1.out.c1
  have c2 := A1.out.c2
  clear hb1
  go_wp2_with fail
  refine (HCC.out _).mono ?_
  rintro o w2 ⟨rfl, hb2⟩
  have A2 := Lib.hid (A1.out.below hb2)
  have B2 := Lib.hid (below_next B1.out hb2)
  clear hb2 c0 c1 c2
  have c0 := A2.out.c0
  have c1 := A2.out.c1
  have c2 := A2.out.c2
  have f0 := A2.out.f 0
  have f1 := A2.out.f 1
  have f2 := A2.out.f 2
  have hz := A2.out.lt
  go_wp2_with fail
  have A3 := Lib.hid (A2.out.set (n' := n) (s' := t) (e' := e))
  have B3 := Lib.hid (below_setD B2.out (Nat.le_refl _) n t e)
  obtain ⟨W3, hW3⟩ : ∃ W3, W3 = setD w2 w.heap.size n t e := ⟨_, rfl⟩
  rw [← hW3] at A3 B3
  rw [show ((w2.setCell ⟨w.heap.size, 0, none⟩ (.bool n)).setCell ⟨w.heap.size, 1, none⟩ (.string t)).setCell ⟨w.heap.size, 2, none⟩ (.int .i64 e) = W3 from hW3.symm]
  clear hW3 c0 c1 c2 f0 f1 f2 hz A0 A1 A2 B0 B1 B2
  refine (H1.out _ (HT.out.below B3.out)).mono ?_
  rintro o w4 ⟨rfl, hb4⟩
  have A4 := Lib.hid (A3.out.below hb4)
  have B4 := Lib.hid (below_next B3.out hb4)
  clear hb4
  go_wp2_with fail
  refine (H2.out _ (HT.out.below B4.out)).mono ?_
  rintro o w5 ⟨rfl, hb5⟩
  have A5 := Lib.hid ((A4.out.below hb5).alloc (.cells #[.bool bn, .string bs, .int .i64 bx] 23))
  have X5 := Lib.hid (DecAt.new w5 bn bs bx)
  have B5 := Lib.hid ((below_next B4.out hb5).alloc (below_next B4.out hb5).size (.cells #[.bool bn, .string bs, .int .i64 bx] 23))
  clear hb5 A3 A4 B3 B4
  have c0 := A5.out.c0
  have c1 := A5.out.c1
  have c2 := A5.out.c2
  have x0 := X5.out.c0
  have x1 := X5.out.c1
  have x2 := X5.out.c2
  obtain ⟨W5, hW5⟩ : ∃ W5, W5 = w5.alloc (.cells #[.bool bn, .string bs, .int .i64 bx] 23) := ⟨_, rfl⟩
  rcases C1.out with ⟨rfl, rfl, rfl, rfl, rfl, rfl, rfl⟩ | ⟨rfl, rfl⟩
  all_goals
    clear C1
    go_wp2_with fail
    rw [← hW5] at A5 B5 ⊢
    clear hW5 c0 c1 c2 x0 x1 x2 X5
    refine (cut_calls _ _).mono ?_
    rintro o w5 ⟨rfl, rfl⟩
    go_wp2_with fail
    refine (H4.out _ (HT.out.below B5.out)).mono ?_
    rintro o w6 ⟨rfl, hb6⟩
    have A6 := Lib.hid ((A5.out.below hb6).alloc (.cells #[.bool xn, .string xs, .int .i64 xx] 23))
    have X6 := Lib.hid (DecAt.new w6 xn xs xx)
    have B6 := Lib.hid ((below_next B5.out hb6).alloc (below_next B5.out hb6).size (.cells #[.bool xn, .string xs, .int .i64 xx] 23))
    clear hb6 A5 B5
    have x0 := X6.out.c0
    have x1 := X6.out.c1
    have x2 := X6.out.c2
    go_wp2_with fail
    clear x0 x1 x2
    refine (H5.out _ (HT.out.below B6.out)).mono ?_
    rintro o w7 ⟨rfl, hb7⟩
    have A7 := Lib.hid (A6.out.below hb7)
    have X7 := Lib.hid (X6.out.below hb7)
    have B7 := Lib.hid (below_next B6.out hb7)
    clear hb7 A6 B6 X6
    go_wp2_with fail
    refine (H6.out _ (HT.out.below B7.out)).mono ?_
    rintro o w8 ⟨rfl, hb8⟩
    have A8 := Lib.hid ((A7.out.below hb8).alloc (.cells #[.bool yn, .string ys, .int .i64 yx] 23))
    have X8 := Lib.hid ((X7.out.below hb8).alloc (.cells #[.bool yn, .string ys, .int .i64 yx] 23))
    have Y8 := Lib.hid (DecAt.new w8 yn ys yx)
    have B8 := Lib.hid ((below_next B7.out hb8).alloc (below_next B7.out hb8).size (.cells #[.bool yn, .string ys, .int .i64 yx] 23))
    clear hb8 A7 B7 X7
    have c0 := A8.out.c0
    have c1 := A8.out.c1
    have c2 := A8.out.c2
    have x0 := X8.out.c0
    have x1 := X8.out.c1
    have x2 := X8.out.c2
    have y0 := Y8.out.c0
    have y1 := Y8.out.c1
    have y2 := Y8.out.c2
    rcases C2.out with ⟨rfl, rfl, rfl, rfl, rfl, rfl, rfl⟩ | rfl
    all_goals
      clear C2
      go_wp2_with fail
      refine (H3.out _ (HT.out.below B8.out)).mono ?_
      rintro o w9 ⟨rfl, hb9⟩
      have B9 := Lib.hid (below_next B8.out hb9)
      have X9 := Lib.hid (X8.out.below hb9)
      have Y9 := Lib.hid (Y8.out.below hb9)
      clear hb9 c0 c1 c2 x0 x1 x2 y0 y1 y2
      have x0 := X9.out.c0
      have x1 := X9.out.c1
      have x2 := X9.out.c2
      have y0 := Y9.out.c0
      have y1 := Y9.out.c1
      have y2 := Y9.out.c2
      go_wp2
      go_ret
      exact ⟨rfl, B9.out⟩

theorem pR_some (s : ByteArray) (d : Bool × Nat × Int) (r : ByteArray) : pR s (some (d, r.data.toList)) = r := by
  rw [pR]
theorem back_calls (n : Bool) (s : ByteArray) (e : Int) (u : ByteArray) (w : World) (hT : Tb w) : Calls Tryd.prog 5 #[.agg #[.bool n, .string s, .int .i64 e], .string u] w (BoolP true w) := by
  have hsz := fS_size n (cutB 200 s) e
  have hp1 : (fS n (cutB 200 s) e ++ (⟨#[44, 49]⟩ : ByteArray)).size ≤ 100000 := by
    rw [ByteArray.size_append, show (⟨#[44, 49]⟩ : ByteArray).size = 2 from rfl]; omega
  have hp2 : (cutB 420 u).size ≤ 100000 := by have := cutB_size 420 u; omega
  refine back_walk n s e u (cutB 200 s) _ _ _ _ _ _ _ _ _ _ _ _ _ _ _ _ _ _ _ _ w hT (fun W => Cut_calls n s e W) (fun W hW => Format_calls _ _ _ W hW) (fun W hW => Parse_calls _ W hp1 hW) (fun W hW => Right_calls _ _ _ W hW)
    (fun W hW => Parse_calls _ W hp2 hW) (fun W hW => Format_calls _ _ _ W hW) (fun W hW => Parse_calls _ W (Nat.le_trans (fS_size _ _ _) (by omega)) hW) hsz ?_ ?_
  · rcases fE_cases n (cutB 200 s) e with ⟨h1, h2⟩ | ⟨h1, h2⟩
    · refine .inl ?_
      rw [read_fmt h2 (Stop.comma _)]
      exact ⟨h1, h2, rfl, rfl, (right_decB h2).symm, rfl, pR_some _ _ _⟩
    · exact .inr ⟨h1, h2⟩
  · cases hp : parseR (cutB 420 u).data.toList with
    | none => exact .inr rfl
    | some p =>
      obtain ⟨⟨xn, a, xe⟩, r⟩ := p
      have hr := (parse_right hp).1
      have hr' : rightD xn (decB a).data.toList xe = true := by rw [decB_data]; exact hr
      have hq : parseR (fS xn (decB a) xe).data.toList = some ((xn, a, xe), []) := by
        rw [fS_data hr', decB_data]; exact parse_back hp
      refine .inl ⟨rfl, (by rw [fE, if_pos hr'] : fE xn (decB a) xe = 0), ?_⟩
      show decE (pD (parseR (fS xn (decB a) xe).data.toList)) = 0 ∧ xn = dN (pD (parseR (fS xn (decB a) xe).data.toList)) ∧ decB a = dS (pD (parseR (fS xn (decB a) xe).data.toList)) ∧ xe = dX (pD (parseR (fS xn (decB a) xe).data.toList)) ∧ pR (fS xn (decB a) xe) (parseR (fS xn (decB a) xe).data.toList) = ⟨#[]⟩
      rw [hq]
      exact ⟨rfl, rfl, rfl, rfl, rfl⟩
end Go.Proofs.YtifccjchpciicaaDoor
