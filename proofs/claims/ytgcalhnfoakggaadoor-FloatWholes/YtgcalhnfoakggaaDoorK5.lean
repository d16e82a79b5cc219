/- The walk of FloatWholes. -/
import Derived.Test.YtgcalhnfoakggaaDoorK3
import Derived.Laws.PanicsMore
namespace Go.Proofs.YtgcalhnfoakggaaDoor
open Go.RowKit
open Go.Lib (decDigits nDigits)

set_option maxRecDepth 100000 in
set_option maxHeartbeats 400000 in
theorem OfInt_calls (n : Bool) (k : Nat) (w : World) (hk : k < 18446744073709551616) (hT : Tab w) : Calls Tryd.prog 11 #[.bool n, .int .u64 (k : Int)] w (ValP (makeR n (decDigits k) 0) w) := by
  obtain ⟨R, hR⟩ : ∃ R, R = makeR n (decDigits k) 0 := ⟨_, rfl⟩
  have HMk : Hid (∀ w, Calls Tryd.prog 12 #[.bool n, .string (decB k), .int .i64 0] w (DecP R w)) := Lib.hid (fun w => by
    have := pMake_calls n (decB k) 0 w (by have := decB_size hk; omega)
    rw [decB_data, ← hR] at this
    exact this)
  have HOf := Lib.hid (Of_calls k (w.alloc (.cells #[.bool false, .string ⟨#[]⟩, .int .i64 0] 24)) hk (hT.below ((Below.refl _ w).alloc (Nat.le_refl _) _)))
  have A0 := Lib.hid (DecAt.new w false ⟨#[]⟩ 0)
  have B0 := Lib.hid ((Below.refl _ w).alloc (Nat.le_refl _) (.cells #[.bool false, .string ⟨#[]⟩, .int .i64 0] 24))
  rw [← hR]
  rw [show (⟨(decDigits k).toArray⟩ : ByteArray) = decB k from rfl] at HOf
  clear hR hk hT
  go_enter Tryd.func11, Tryd.ntmps11
  go_wp2_with fail
  refine HOf.out.mono ?_
  rintro o w1 ⟨rfl, hb1⟩
  have A1 := Lib.hid (A0.out.below hb1)
  have B1 := Lib.hid (below_next B0.out hb1)
  clear hb1
  go_wp2_with fail
  refine (HMk.out _).mono ?_
  rintro o w2 ⟨rfl, hb2⟩
  have A2 := Lib.hid ((A1.out.below hb2).alloc (.cells #[.bool (dN R), .string (dS R), .int .i64 (dX R)] 24))
  have B2 := Lib.hid ((below_next B1.out hb2).alloc (below_next B1.out hb2).size (.cells #[.bool (dN R), .string (dS R), .int .i64 (dX R)] 24))
  clear hb2
  have c0 := A2.out.c0
  have c1 := A2.out.c1
  have c2 := A2.out.c2
  have f0 := A2.out.f 0
  have f1 := A2.out.f 1
  have f2 := A2.out.f 2
  have hz := A2.out.lt
  go_wp2
  refine bodyPost_ret (v := .agg #[.bool (dN R), .string (dS R), .int .i64 (dX R)]) (by simp [results, Tryd.results11, go_sem, c0, c1, c2]) rfl ?_
  exact ⟨rfl, bel3 B2.out (Nat.le_refl _) _ _ _⟩

theorem fldS (n : Bool) (s : ByteArray) (x : Int) (w : World) : (Instr.field 24 (.agg #[.bool n, .string s, .int .i64 x]) 1).run Tryd.prog w = .ok (.string s) w := by
  simp [Instr.field, run_underlying Tryd.underlying24, go_sem, part, asAgg, Tryd.isAgg9]
theorem fldX (n : Bool) (s : ByteArray) (x : Int) (w : World) : (Instr.field 24 (.agg #[.bool n, .string s, .int .i64 x]) 2).run Tryd.prog w = .ok (.int .i64 x) w := by
  simp [Instr.field, run_underlying Tryd.underlying24, go_sem, part, asAgg, Tryd.isAgg3]

set_option maxRecDepth 100000 in
set_option maxHeartbeats 400000 in
theorem wholes_walk (g N K : Nat) (neg m m2 hm : Bool) (d d2 hd : ByteArray) (x x2 y z : Int) (a b : Nat) (w : World) (hT : Tf w) (hN : (g : Int) % 9007199254740992 = (N : Int)) (hK : 5 * ((N : Int) % 1000000007) = (K : Int)) (hz : x2 - 1 = z) (hx1 : -1000 ≤ x2) (hx2 : x2 ≤ 1000)
    (h1 : Ans 11 #[.bool neg, .int .u64 (N : Int)] (.agg #[.bool m, .string d, .int .i64 x]))
    (h2 : Ans 9 #[.agg #[.bool m, .string d, .int .i64 x]] (.tuple #[.int .u64 (a : Int), .bool true]))
    (h3 : Ans 8 #[.int .u64 (a : Int)] (.tuple #[.agg #[.bool m, .string d, .int .i64 x], .int .i64 0]))
    (h4 : Ans 12 #[.bool neg, .string d, .int .i64 x] (.tuple #[.agg #[.bool m, .string d, .int .i64 x], .int .i64 0]))
    (h5 : Ans 11 #[.bool false, .int .u64 (K : Int)] (.agg #[.bool m2, .string d2, .int .i64 x2]))
    (h6 : Ans 12 #[.bool neg, .string d2, .int .i64 z] (.tuple #[.agg #[.bool hm, .string hd, .int .i64 y], .int .i64 0]))
    (h7 : Ans 9 #[.agg #[.bool hm, .string hd, .int .i64 y]] (.tuple #[.int .u64 (b : Int), .bool true]))
    (h8 : Ans 8 #[.int .u64 (b : Int)] (.tuple #[.agg #[.bool hm, .string hd, .int .i64 y], .int .i64 0])) :
    Calls Tryd.prog 4 #[.int .u64 (g : Int), .bool neg] w (BoolP true w) := by
  have H1 := Lib.hid h1
  have H2 := Lib.hid h2
  have H3 := Lib.hid h3
  have H4 := Lib.hid h4
  have H5 := Lib.hid h5
  have H6 := Lib.hid h6
  have H7 := Lib.hid h7
  have H8 := Lib.hid h8
  have HT := Lib.hid hT
  have hK2 : (K : Int) ≤ 5000000035 := by omega
  have hfs := fldS
  have hfx := fldX
  clear h1 h2 h3 h4 h5 h6 h7 h8 hT
  go_enter Tryd.func4, Tryd.ntmps4
  go_wp2_with fail
  refine (shown_calls _ HT.out).mono ?_
  rintro o w1 ⟨rfl, hb1⟩
  have B1 := Lib.hid hb1
  clear hb1
  go_wp2_with fail
  refine (H1.out _ (HT.out.below B1.out)).mono ?_
  rintro o w2 ⟨rfl, hb2⟩
  have B2 := Lib.hid (below_al (below_next B1.out hb2) (.cells #[.bool m, .string d, .int .i64 x] 24))
  have D2 := Lib.hid (At.new w2 #[.bool m, .string d, .int .i64 x] 24)
  clear hb2 B1
  go_wp2_with fail
  refine (H2.out _ (HT.out.below B2.out)).mono ?_
  rintro o w3 ⟨rfl, hb3⟩
  have B3 := Lib.hid (below_next B2.out hb3)
  have D3 := Lib.hid (D2.out.below hb3)
  clear hb3 B2 D2
  go_wp2_with fail
  refine (H3.out _ (HT.out.below B3.out)).mono ?_
  rintro o w4 ⟨rfl, hb4⟩
  have B4 := Lib.hid (below_al (below_next B3.out hb4) (.cells #[.bool m, .string d, .int .i64 x] 24))
  have D4 := Lib.hid (D3.out.below hb4)
  have D4a := Lib.hid (D4.out.alloc (.cells #[.bool m, .string d, .int .i64 x] 24))
  have E4 := Lib.hid (At.new w4 #[.bool m, .string d, .int .i64 x] 24)
  have hl4 : w2.heap.size < w4.heap.size := D4.out.lt
  have c1 := D4.out.c 1 rfl
  have c2 := D4.out.c 2 rfl
  clear hb4 B3 D3
  go_wp2_with fail
  refine (H4.out _ (HT.out.below B4.out)).mono ?_
  rintro o w5 ⟨rfl, hb5⟩
  have B5 := Lib.hid (below_al (below_next B4.out hb5) (.cells #[.bool m, .string d, .int .i64 x] 24))
  have D5 := Lib.hid ((D4a.out.below hb5).alloc (.cells #[.bool m, .string d, .int .i64 x] 24))
  have E5 := Lib.hid ((E4.out.below hb5).alloc (.cells #[.bool m, .string d, .int .i64 x] 24))
  have G5 := Lib.hid (At.new w5 #[.bool m, .string d, .int .i64 x] 24)
  clear hb5 B4 D4 D4a E4 c1 c2
  go_wp2_with fail
  refine (H5.out _ (HT.out.below B5.out)).mono ?_
  rintro o w6 ⟨rfl, hb6⟩
  have B6 := Lib.hid (below_next B5.out hb6)
  have D6 := Lib.hid (D5.out.below hb6)
  have E6 := Lib.hid (E5.out.below hb6)
  have G6 := Lib.hid (G5.out.below hb6)
  clear hb6 B5 D5 E5 G5
  go_wp2_with fail
  refine (H5.out _ (HT.out.below B6.out)).mono ?_
  rintro o w7 ⟨rfl, hb7⟩
  have B7 := Lib.hid (below_next B6.out hb7)
  have D7 := Lib.hid (D6.out.below hb7)
  have E7 := Lib.hid (E6.out.below hb7)
  have G7 := Lib.hid (G6.out.below hb7)
  clear hb7 B6 D6 E6 G6
  go_wp2_with fail
  refine (H6.out _ (HT.out.below B7.out)).mono ?_
  rintro o w8 ⟨rfl, hb8⟩
  have B8 := Lib.hid (below_al (below_next B7.out hb8) (.cells #[.bool hm, .string hd, .int .i64 y] 24))
  have D8 := Lib.hid ((D7.out.below hb8).alloc (.cells #[.bool hm, .string hd, .int .i64 y] 24))
  have E8 := Lib.hid ((E7.out.below hb8).alloc (.cells #[.bool hm, .string hd, .int .i64 y] 24))
  have G8 := Lib.hid ((G7.out.below hb8).alloc (.cells #[.bool hm, .string hd, .int .i64 y] 24))
  have I8 := Lib.hid (At.new w8 #[.bool hm, .string hd, .int .i64 y] 24)
  clear hb8 B7 D7 E7 G7
  go_wp2_with fail
  refine (H7.out _ (HT.out.below B8.out)).mono ?_
  rintro o w9 ⟨rfl, hb9⟩
  have B9 := Lib.hid (below_next B8.out hb9)
  have D9 := Lib.hid (D8.out.below hb9)
  have E9 := Lib.hid (E8.out.below hb9)
  have G9 := Lib.hid (G8.out.below hb9)
  have I9 := Lib.hid (I8.out.below hb9)
  clear hb9 B8 D8 E8 G8 I8
  go_wp2_with fail
  refine (H8.out _ (HT.out.below B9.out)).mono ?_
  rintro o wa ⟨rfl, hba⟩
  have Ba := Lib.hid (below_al (below_next B9.out hba) (.cells #[.bool hm, .string hd, .int .i64 y] 24))
  have Da := Lib.hid (D9.out.below hba)
  have Ea := Lib.hid (E9.out.below hba)
  have Ga := Lib.hid (G9.out.below hba)
  have Ia := Lib.hid (I9.out.below hba)
  clear hba B9 D9 E9 G9 I9
  have l1 := Da.out.lt
  have l2 := Ea.out.lt
  have l3 := Ga.out.lt
  have l4 := Ia.out.lt
  have p0 := Da.out.c 0 rfl
  have p1 := Da.out.c 1 rfl
  have p2 := Da.out.c 2 rfl
  have q0 := Ea.out.c 0 rfl
  have q1 := Ea.out.c 1 rfl
  have q2 := Ea.out.c 2 rfl
  have r0 := Ga.out.c 0 rfl
  have r1 := Ga.out.c 1 rfl
  have r2 := Ga.out.c 2 rfl
  have s0 := Ia.out.c 0 rfl
  have s1 := Ia.out.c 1 rfl
  have s2 := Ia.out.c 2 rfl
  go_wp2
  go_ret
  exact ⟨rfl, Ba.out⟩

theorem dec_good (N : Nat) (x : Int) (h : nDigits N ≤ 400) (h1 : -1000 ≤ x) (h2 : x ≤ 1000) : ¬ (decDigits N = [] ∨ 400 < (decDigits N).length ∨ x < -1000 ∨ 1000 < x ∨ (decDigits N).all isD = false) := by
  rintro (h | h | h | h | h)
  · exact dec_ne N h
  · rw [Lib.decDigits_length] at h; omega
  · omega
  · omega
  · rw [all_dec] at h; cases h
theorem nd_le {a N k : Nat} (hN : N = a * 10 ^ k) (h : N < 18446744073709551616) : nDigits a ≤ 20 ∧ (a ≠ 0 → k ≤ 19) := by
  have hp : 0 < 10 ^ k := Nat.pow_pos (by decide)
  have h1 : a ≤ N := by rw [hN]; exact Nat.le_mul_of_pos_right _ hp
  refine ⟨nDigits_le (by decide) (by omega), fun ha => ?_⟩
  have h2 : 10 ^ k ≤ N := by rw [hN]; exact Nat.le_mul_of_pos_left _ (by omega)
  have h3 : (10 : Nat) ^ k < 10 ^ 20 := Nat.lt_of_le_of_lt h2 (Nat.lt_trans h (by decide))
  have := (Nat.pow_lt_pow_iff_right (by decide : 1 < 10)).1 h3
  omega
theorem some_of {o : Option Nat} (h : o.isSome = true) : ∃ c, o = some c := by cases o with | none => cases h | some c => exact ⟨c, rfl⟩

theorem whole_parts (neg : Bool) {N : Nat} (hN : N < 9007199254740992) : ∃ (m : Bool) (a : Nat) (x : Int) (c : Nat), makeR neg (decDigits N) 0 = some (m, a, x) ∧ rightD m (decDigits a) x = true ∧ ofDecR m a x = some c ∧ makeR neg (decDigits a) x = some (m, a, x) ∧ -1000 ≤ x ∧ x ≤ 1000 := by
  by_cases h0 : N = 0
  · subst h0
    exact ⟨false, 0, 0, 0, make_zero neg 0 (by decide) (by decide), by rw [show decDigits 0 = [48] from by rw [Lib.decDigits_one (by omega)]; rfl, rightD_zero]; rfl, by rw [ofDecR, if_pos rfl], make_zero neg 0 (by decide) (by decide), by decide, by decide⟩
  · obtain ⟨a, k, h1, h2⟩ := strip N h0
    have ha : a ≠ 0 := fun e => by rw [e] at h2; exact h2 rfl
    obtain ⟨n1, n2⟩ := nd_le h1 (by omega)
    have n2 := n2 ha
    have hm : makeR neg (decDigits N) 0 = some (neg, a, 0 + (k : Int)) := by
      rw [makeR_more (dec_good N 0 (Nat.le_trans (nDigits_le (k := 20) (by decide) (by omega)) (by decide)) (by decide) (by decide)) (by rw [dv_dec]; exact h1) h2 (by omega), if_pos ⟨by omega, by omega, by omega⟩]
    rw [Int.zero_add] at hm
    have hr : rightD neg (decDigits a) (k : Int) = true := (make_is_right hm).1
    obtain ⟨c, hc⟩ := some_of (whole_some (b := neg) h1 ha hN)
    refine ⟨neg, a, k, c, hm, hr, hc, ?_, by omega, by omega⟩
    have := make_right (p := 0) (z := 0) (q := decDigits a) (x := (k : Int)) hr (by simp) (by rw [Lib.decDigits_length]; omega) (by omega) (by decide) (by omega) (by omega)
    rw [dv_dec] at this
    exact this
theorem half_parts (neg : Bool) {M : Nat} (hM : M < 1000000007) : ∃ (m2 : Bool) (a2 : Nat) (x2 : Int) (hm : Bool) (c : Nat) (y : Int) (b : Nat), makeR false (decDigits (5 * M)) 0 = some (m2, a2, x2) ∧ -1000 ≤ x2 ∧ x2 ≤ 1000 ∧ a2 < lim ∧ makeR neg (decDigits a2) (x2 - 1) = some (hm, c, y) ∧ rightD hm (decDigits c) y = true ∧ ofDecR hm c y = some b := by
  by_cases h0 : M = 0
  · subst h0
    exact ⟨false, 0, 0, false, 0, 0, 0, make_zero false 0 (by decide) (by decide), by decide, by decide, u64_lim (by decide), make_zero neg _ (by decide) (by decide), by rw [show decDigits 0 = [48] from by rw [Lib.decDigits_one (by omega)]; rfl, rightD_zero]; rfl, by rw [ofDecR, if_pos rfl]⟩
  · obtain ⟨a, k, h1, h2⟩ := strip (5 * M) (by omega)
    have ha : a ≠ 0 := fun e => by rw [e] at h2; exact h2 rfl
    obtain ⟨n1, n2⟩ := nd_le h1 (by omega)
    have n2 := n2 ha
    have hm : makeR false (decDigits (5 * M)) 0 = some (false, a, 0 + (k : Int)) := by
      rw [makeR_more (dec_good (5 * M) 0 (Nat.le_trans (nDigits_le (k := 20) (by decide) (by omega)) (by decide)) (by decide) (by decide)) (by rw [dv_dec]; exact h1) h2 (by omega), if_pos ⟨by omega, by omega, by omega⟩]
    rw [Int.zero_add] at hm
    have hh : makeR neg (decDigits a) ((k : Int) - 1) = some (neg, a, (k : Int) - 1 + (0 : Nat)) := by
      rw [makeR_more (a := a) (k := 0) (dec_good a _ (by omega) (by omega) (by omega)) (by rw [dv_dec]; simp) h2 (by decide), if_pos ⟨by omega, by omega, by omega⟩]
    rw [show (k : Int) - 1 + ((0 : Nat) : Int) = (k : Int) - 1 from by omega] at hh
    obtain ⟨c, hc⟩ := some_of (half_some (b := neg) h1 ha (by omega))
    have hal : a < lim := by
      refine (lim_iff a).1 ?_
      omega
    exact ⟨false, a, k, neg, a, _, c, hm, by omega, by omega, hal, hh, (make_is_right hh).1, hc⟩

theorem ans_od {n : Bool} {c : Nat} {e : Int} {b : Nat} (hr : rightD n (decDigits c) e = true) (h : ofDecR n c e = some b) : Ans 9 #[.agg #[.bool n, .string (decB c), .int .i64 e]] (.tuple #[.int .u64 (b : Int), .bool true]) := fun W hW => by
  have := OfDec_calls n (decB c) e W hW
  rw [odR, decB_data, hr, if_pos rfl, dv_dec, h] at this
  exact this
theorem ans_bk {n : Bool} {c : Nat} {e : Int} {b : Nat} (hr : rightD n (decDigits c) e = true) (h : ofDecR n c e = some b) : Ans 8 #[.int .u64 (b : Int)] (.tuple #[.agg #[.bool n, .string (decB c), .int .i64 e], .int .i64 0]) := fun W hW => by
  obtain ⟨h1, h2, h3⟩ := turn2 hr h
  have := ToDec_calls b W h1 hW
  unfold TdP at this
  rw [tdR, tdE, if_pos h2, if_pos h2, h3] at this
  exact this
theorem ans_mk {n : Bool} {a : Nat} {e : Int} {m : Bool} {c : Nat} {x : Int} (ha : a < lim) (h : makeR n (decDigits a) e = some (m, c, x)) : Ans 12 #[.bool n, .string (decB a), .int .i64 e] (.tuple #[.agg #[.bool m, .string (decB c), .int .i64 x], .int .i64 0]) := fun W _ => by
  have := pMake_calls n (decB a) e W (decB_400 ha)
  rw [decB_data, h] at this
  exact this
theorem ans_oi {n : Bool} {k : Nat} {m : Bool} {c : Nat} {x : Int} (hk : k < 18446744073709551616) (h : makeR n (decDigits k) 0 = some (m, c, x)) : Ans 11 #[.bool n, .int .u64 (k : Int)] (.agg #[.bool m, .string (decB c), .int .i64 x]) := fun W hW => by
  have := OfInt_calls n k W hk hW.2
  rw [h] at this
  exact this

theorem wholes_calls (g : Nat) (neg : Bool) (w : World) (_hg : g < 18446744073709551616) (hT : Tf w) : Calls Tryd.prog 4 #[.int .u64 (g : Int), .bool neg] w (BoolP true w) := by
  obtain ⟨N, hN⟩ : ∃ N, N = g % 9007199254740992 := ⟨_, rfl⟩
  have hN2 : N < 9007199254740992 := by omega
  obtain ⟨m, a, x, c, h1, h2, h3, h4, hx1, hx2⟩ := whole_parts neg hN2
  obtain ⟨M, hM⟩ : ∃ M, M = N % 1000000007 := ⟨_, rfl⟩
  obtain ⟨m2, a2, x2, hm, c2, y, b, g1, g2, g3, g4, g5, g6, g7⟩ := half_parts neg (M := M) (by omega)
  exact wholes_walk g N (5 * M) neg m m2 hm (decB a) (decB a2) (decB c2) x x2 y (x2 - 1) c b w hT (by omega) (by omega) rfl g2 g3 (ans_oi (by omega) h1) (ans_od h2 h3) (ans_bk h2 h3) (ans_mk (make_is_right h1).2 h4) (ans_oi (by omega) g1) (ans_mk g4 g5) (ans_od g6 g7) (ans_bk g6 g7)
end Go.Proofs.YtgcalhnfoakggaaDoor
