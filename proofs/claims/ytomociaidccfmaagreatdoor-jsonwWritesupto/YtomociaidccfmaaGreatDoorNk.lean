/- The document's own: write of all trees that fit, Write, Pretty. The law JsonwWrites, of trees of at most so many nodes. -/
import Derived.Test.YtomociaidccfmaaGreatDoorK2
import Derived.Test.YtomociaidccfmaaGreatDoorZO
import Derived.Test.YtomociaidccfmaaGreatDoorYA
import Derived.Test.YtomociaidccfmaaGreatDoorNb
import Derived.Test.YtomociaidccfmaaGreatDoorZR

namespace Go.Proofs.YtomociaidccfmaaGreatDoor
open Go.RowKit

theorem gw_all : ∀ (f : Fo), okAll okN f = true → fitAll (frmOf 1) f = true → f.cnt ≤ 300 → AllG Gw f
  | .nil, _, _, _ => trivial
  | .cons h k r, h1, h2, h3 => by
    rw [okAll] at h1
    rw [fitAll] at h2
    simp only [Bool.and_eq_true, decide_eq_true_eq] at h1 h2
    rw [Fo.cnt] at h3
    have := len_cnt k
    refine ⟨⟨gj_of h k h1.1.1.2 h2.1.1 h1.1.1.1 (by omega), fun e => ?_⟩, gw_all k h1.1.2 h2.1.2 (by omega), gw_all r h1.2 h2.2 (by omega)⟩
    have h4 := h1.1.1.2
    rw [okN, if_neg (by omega), if_neg (by omega), if_neg (by omega), if_neg (by omega), if_neg (by omega), if_neg (by omega), if_neg (by omega), if_pos e, o_isMap] at h4
    simp only [Bool.and_eq_true, decide_eq_true_eq] at h4
    omega
theorem gw_gj : ∀ {f : Fo}, AllG Gw f → AllG Gj f
  | .nil, _ => trivial
  | .cons _ _ _, ⟨h1, h2, h3⟩ => ⟨h1.1, gw_gj h2, gw_gj h3⟩
theorem chk_gw {h : Hd} {k : Fo} (e : chk 1 h k = 0) : AllG Gw (.cons h k .nil) ∧ 1 + k.cnt ≤ 300 ∧ k.deep + 1 ≤ 16 := by
  unfold chk at e
  split at e
  · rename_i h1
    split at e
    · rename_i h2
      rw [rgt, rightR, Bool.and_eq_true, decide_eq_true_eq] at h1
      exact ⟨gw_all _ h1.2 h2 (by rw [Fo.cnt]; simp only [Fo.cnt]; omega), h1.1⟩
    · cases e
  · cases e
theorem outF_size {L : Lay} (hL : L.ok) {i : Nat} {m : Bool} {k : Fo} (hk : AllG Gj k) (hi : i + 1 + k.deep ≤ 40) (hc : k.cnt ≤ 300) (hm : m = true → k.len % 2 = 0) : (outF L i m k 0).size ≤ 1000000 := by
  by_cases hn : k = .nil
  · subst hn; exact Nat.zero_le _
  · rw [outF_all L i m k hn hm, ByteArray.size_append]
    have h1 := nlB_le hL (n := i + 1) (by omega)
    have h2 := docs_le hL k (i + 1) m false hk hi
    have h3 : k.cnt * 2700 ≤ 300 * 2700 := Nat.mul_le_mul_right _ hc
    omega
theorem outF_pos {L : Lay} {i : Nat} {m : Bool} {k : Fo} (hk : AllG Gj k) (hm : m = true → k.len % 2 = 0) (hn : k ≠ .nil) : 0 < (outF L i m k 0).size := by
  rw [outF_all L i m k hn hm, ByteArray.size_append]
  cases k with
  | nil => exact absurd rfl hn
  | cons h k r =>
    rw [docs_cons, ByteArray.size_append]
    have := nodeB_pos (L := L) (i := i + 1) hk.1
    omega
theorem cnt_at {j : Nat} {f : Fo} {h : Hd} {k r : Fo} (e : f.drop j = .cons h k r) : k.cnt < f.cnt := by
  have h1 := drop_cnt j f
  rw [e, Fo.cnt] at h1
  omega
theorem rwrite_all (p : Bool) : ∀ (n : Nat) (h : Hd) (k : Fo) (v : Value) (i : Nat) (w : World), k.cnt < n → Kd An w v k → AllG Gw (.cons h k .nil) → k.deep + i ≤ 29 → k.cnt ≤ 300 → Calls Tryz.prog 15 #[.agg (h.cells v), .bool p, .int .i64 (i : Int)] w (WriP (layOf p) i h k w)
  | 0, _, _, _, _, _, hc, _, _, _, _ => by omega
  | n + 1, h, k, v, i, w, hc, hk, hG, hd, h3 => by
    have IH := rwrite_all p n
    have hgk := gw_gj hG.2.1
    have hI : ∀ (j : Nat) (h' : Hd) (k' r : Fo) (v' : Value) (W : World), k.drop j = .cons h' k' r → Below w.heap.size w W → Kd An w v' k' → Calls Tryz.prog 15 #[.agg (h'.cells v'), .bool p, .int .i64 ((i + 1 : Nat) : Int)] W (WriP (layOf p) (i + 1) h' k' W) := fun j h' k' r v' W e hW hk' => by
      have h1 := allG_at2 hG.2.1 e
      have h2 := cnt_at e
      have h4 := drop_deep j k e
      exact IH h' k' v' (i + 1) W (by omega) (hk'.below hW) ⟨h1.1, h1.2, trivial⟩ (by omega) (by omega)
    rcases hG.1.1.1 with e | e | ⟨e, er⟩ | ⟨e, eu, es⟩ | e | e
    · exact rwrite_1 _ h k v p i w e
    · exact rwrite_2 _ h k v p i w e
    · exact rwrite_3 _ h k v p i w e er
    · exact rwrite_5 _ h k v p i w e eu es
    · exact rwrite_7 h k v p i w hk e (by omega) (outF_size (layOf_ok p) hgk (by omega) h3 (by simp)) (by simp) hG.1.1.2 (fun hn => outF_pos hgk (by simp) hn) hI
    · have hev : true = true → k.len % 2 = 0 := fun _ => hG.1.2 e
      exact rwrite_8 h k v p i w hk e (by omega) (outF_size (layOf_ok p) hgk (by omega) h3 hev) hev hG.1.1.2 (fun hn => outF_pos hgk hev hn) hI
set_option maxRecDepth 100000 in
set_option maxHeartbeats 1000000 in
theorem rWrite_calls (h : Hd) (k : Fo) (v : Value) (w : World) (hk : Kd An w v k) (hu : h.u < 18446744073709551616) (hS : AllG Gl (.cons h k .nil)) (hd : k.deep < 1000) (hc : k.cnt < 1000000000) :
    Calls Tryz.prog 7 #[.agg (h.cells v)] w (DocP layP h k w) := by
  obtain ⟨A, c, rfl, _, _, _⟩ := hk.form
  obtain ⟨e, he⟩ : ∃ e, e = chk 1 h k := ⟨_, rfl⟩
  obtain ⟨D, hD⟩ : ∃ D, D = docB layP h k := ⟨_, rfl⟩
  have HC : Hid (∀ W, Below w.heap.size w W → Calls Tryz.prog 14 #[.agg (h.cells (.slice A k.len c)), .int .i64 1] W fun o w' => o = .returned (.int .i64 e) ∧ Below W.heap.size W w') := Lib.hid (fun W hW => by rw [he]; exact rCheck_calls 1 k h _ W (hk.below hW) hu hS hd hc)
  have HW : Hid (e = 0 → ∀ W, Below w.heap.size w W → Calls Tryz.prog 15 #[.agg (h.cells (.slice A k.len c)), .bool false, .int .i64 0] W fun o w' => o = .returned (.string D) ∧ Below W.heap.size W w') := Lib.hid (fun e0 W hW => by
    obtain ⟨g1, g2, g3⟩ := chk_gw (he ▸ e0)
    have := rwrite_all false (k.cnt + 1) h k (.slice A k.len c) 0 W (by omega) (hk.below hW) g1 (by omega) (by omega)
    rw [hD, docB, if_pos (he ▸ e0)]
    exact this)
  have HN : Hid (e ≠ 0 → D = ⟨#[]⟩) := Lib.hid (fun h => by rw [hD, docB, if_neg (he ▸ h)])
  unfold DocP
  rw [← he, ← hD]
  have HX := Lib.hid (Nx.new w h (.slice A k.len c))
  have HB := Lib.hid (below_a (Below.refl _ w) (.cells (h.cells (.slice A k.len c)) 27))
  obtain ⟨q0, q1, q2, q3, q4, q5, q6, q7, q8⟩ := (Nx.new w h (.slice A k.len c)).nine
  clear he hD hk hu hS
  simp only [Hd.cells] at HC HW HX HB ⊢
  go_enter Tryz.func7, Tryz.ntmps7
  go_wp2_with fail
  refine (HC.out _ HB.out).mono ?_
  rintro o w2 ⟨rfl, hb2⟩
  have HX2 := Lib.hid (HX.out.below hb2)
  have HB2 := Lib.hid (below_nx HB.out hb2)
  clear hb2 q0 q1 q2 q3 q4 q5 q6 q7 q8 HX HB
  by_cases hz : e = 0
  · subst hz
    obtain ⟨q0, q1, q2, q3, q4, q5, q6, q7, q8⟩ := HX2.out.nine
    go_wp2_with fail
    refine (HW.out (by trivial) _ HB2.out).mono ?_
    rintro o w3 ⟨rfl, hb3⟩
    have HB3 := Lib.hid (below_nx HB2.out hb3)
    clear hb3 q0 q1 q2 q3 q4 q5 q6 q7 q8
    go_wp2_with fail
    go_ret2
    exact ⟨rfl, HB3.out⟩
  · have hz2 : (e != 0) = true := by simpa using hz
    have hz3 : (e == 0) = false := by simpa using hz
    go_wp2_with fail
    go_ret2
    exact ⟨by rw [HN.out hz]; rfl, HB2.out⟩
set_option maxRecDepth 100000 in
set_option maxHeartbeats 1000000 in
theorem rPretty_calls (h : Hd) (k : Fo) (v : Value) (w : World) (hk : Kd An w v k) (hu : h.u < 18446744073709551616) (hS : AllG Gl (.cons h k .nil)) (hd : k.deep < 1000) (hc : k.cnt < 1000000000) :
    Calls Tryz.prog 9 #[.agg (h.cells v)] w (DocP layQ h k w) := by
  obtain ⟨A, c, rfl, _, _, _⟩ := hk.form
  obtain ⟨e, he⟩ : ∃ e, e = chk 1 h k := ⟨_, rfl⟩
  obtain ⟨D, hD⟩ : ∃ D, D = docB layQ h k := ⟨_, rfl⟩
  have HC : Hid (∀ W, Below w.heap.size w W → Calls Tryz.prog 14 #[.agg (h.cells (.slice A k.len c)), .int .i64 1] W fun o w' => o = .returned (.int .i64 e) ∧ Below W.heap.size W w') := Lib.hid (fun W hW => by rw [he]; exact rCheck_calls 1 k h _ W (hk.below hW) hu hS hd hc)
  have HW : Hid (e = 0 → ∀ W, Below w.heap.size w W → Calls Tryz.prog 15 #[.agg (h.cells (.slice A k.len c)), .bool true, .int .i64 0] W fun o w' => o = .returned (.string D) ∧ Below W.heap.size W w') := Lib.hid (fun e0 W hW => by
    obtain ⟨g1, g2, g3⟩ := chk_gw (he ▸ e0)
    have := rwrite_all true (k.cnt + 1) h k (.slice A k.len c) 0 W (by omega) (hk.below hW) g1 (by omega) (by omega)
    rw [hD, docB, if_pos (he ▸ e0)]
    exact this)
  have HN : Hid (e ≠ 0 → D = ⟨#[]⟩) := Lib.hid (fun h => by rw [hD, docB, if_neg (he ▸ h)])
  unfold DocP
  rw [← he, ← hD]
  have HX := Lib.hid (Nx.new w h (.slice A k.len c))
  have HB := Lib.hid (below_a (Below.refl _ w) (.cells (h.cells (.slice A k.len c)) 27))
  obtain ⟨q0, q1, q2, q3, q4, q5, q6, q7, q8⟩ := (Nx.new w h (.slice A k.len c)).nine
  clear he hD hk hu hS
  simp only [Hd.cells] at HC HW HX HB ⊢
  go_enter Tryz.func9, Tryz.ntmps9
  go_wp2_with fail
  refine (HC.out _ HB.out).mono ?_
  rintro o w2 ⟨rfl, hb2⟩
  have HX2 := Lib.hid (HX.out.below hb2)
  have HB2 := Lib.hid (below_nx HB.out hb2)
  clear hb2 q0 q1 q2 q3 q4 q5 q6 q7 q8 HX HB
  by_cases hz : e = 0
  · subst hz
    obtain ⟨q0, q1, q2, q3, q4, q5, q6, q7, q8⟩ := HX2.out.nine
    go_wp2_with fail
    refine (HW.out (by trivial) _ HB2.out).mono ?_
    rintro o w3 ⟨rfl, hb3⟩
    have HB3 := Lib.hid (below_nx HB2.out hb3)
    clear hb3 q0 q1 q2 q3 q4 q5 q6 q7 q8
    go_wp2_with fail
    go_ret2
    exact ⟨rfl, HB3.out⟩
  · have hz2 : (e != 0) = true := by simpa using hz
    have hz3 : (e == 0) = false := by simpa using hz
    go_wp2_with fail
    go_ret2
    exact ⟨by rw [HN.out hz]; rfl, HB2.out⟩
end Go.Proofs.YtomociaidccfmaaGreatDoor

namespace Go.Proofs.YtomociaidccfmaaGreatDoor
open Go.RowKit

set_option maxRecDepth 100000 in
set_option maxHeartbeats 4000000 in
theorem writes_calls (h : Hd) (k : Fo) (v : Value) (w : World) (hT : Tj w) (hk : Kd An w v k) (hu : h.u < 18446744073709551616) (hcn : k.cnt ≤ 1048576) : Calls Tryz.prog 3 #[.agg (h.cells v)] w (BolP true w) := by
  obtain ⟨A, c, rfl, _, _, _⟩ := hk.form
  have HT := Lib.hid hT
  have HK := Lib.hid hk
  have HU := Lib.hid hu
  have HCn := Lib.hid hcn
  clear hT hk hu hcn
  simp only [Hd.cells]
  go_enter Tryz.func3, Tryz.ntmps3
  go_wp2_with fail
  refine (jshown_calls _ (HT.out.below (below_a (Below.refl _ _) _))).mono ?_
  rintro o w1 ⟨rfl, hb1⟩
  have HX1 := Lib.hid ((Nx.new w h (.slice A k.len c)).below hb1)
  have HB1 := Lib.hid (below_nx (below_a (Below.refl _ _) _) hb1)
  clear hb1
  obtain ⟨q0, q1, q2, q3, q4, q5, q6, q7, q8⟩ := HX1.out.nine
  have hl1 := HX1.out.lt
  go_wp2_with fail
  refine (Few_calls k h _ _ (HK.out.below HB1.out) HU.out).mono ?_
  rintro o w2 ⟨v2, rfl, hk2, hb2⟩
  obtain ⟨h2, hh2⟩ : ∃ h2, h2 = cutH h := ⟨_, rfl⟩
  obtain ⟨K, hKK⟩ : ∃ K, K = fewK k := ⟨_, rfl⟩
  rw [← hh2]
  rw [← hKK] at hk2
  have HD : Hid (K.deep ≤ 17 ∧ AllG Gl K ∧ K.len ≤ 40 ∧ h2.u < 18446744073709551616) := Lib.hid (by rw [hKK, hh2]; exact ⟨few_deep k, few_gl k, few_len k, HU.out⟩)
  have HCk : Hid (K.cnt < 1000) := Lib.hid (by rw [hKK]; exact few_cnt HCn.out)
  have HG : Hid (AllG Gl (.cons h2 K .nil)) := Lib.hid (by
    have h1 : AllG Gl (.cons h2 K .nil) := allG_cons (gl_of HD.out.2.2.1) HD.out.2.1 trivial
    exact h1)
  have HX2 := Lib.hid (HX1.out.below hb2)
  have HB2 := Lib.hid (below_nx HB1.out hb2)
  have HKd := Lib.hid (hk2.mono (Q := fun b => w.heap.size < b) fun b hb _ => Nat.lt_of_lt_of_le hl1 hb)
  obtain ⟨A2, c2, rfl, _, _, _⟩ := hk2.form
  clear hk2 hb2 q0 q1 q2 q3 q4 q5 q6 q7 q8 HX1 HB1 hh2 hKK
  simp only [Hd.cells]
  have x := fun i => Bx.f HX2.out i
  have x0 := x 0
  have x1 := x 1
  have x2 := x 2
  have x3 := x 3
  have x4 := x 4
  have x5 := x 5
  have x6 := x 6
  have x7 := x 7
  have x8 := x 8
  clear x
  obtain ⟨y0, y1, y2, y3, y4, y5, y6, y7, y8⟩ := HX2.out.nine
  have hl2 := HX2.out.lt
  go_wp2_with fail
  obtain ⟨W3, hW3⟩ : ∃ W3, W3 = setN w2 w.heap.size h2 (.slice A2 K.len c2) := ⟨_, rfl⟩
  have HX : Hid (Nx W3 w.heap.size h2 (.slice A2 K.len c2)) := Lib.hid (by rw [hW3]; exact HX2.out.setN _ _)
  have HB : Hid (Below w.heap.size w W3) := Lib.hid (by rw [hW3]; exact below_setN HB2.out (Nat.le_refl _) _ _)
  have HKK : Hid (Kd An W3 (.slice A2 K.len c2) K) := Lib.hid (by
    rw [hW3]
    exact (HKd.out.kept (by rw [size_setN]; exact Nat.le_refl _) fun b hb _ => setN_other (Nat.ne_of_gt hb)).mono fun _ _ _ => trivial)
  simp only [setN] at hW3
  rw [← hW3]
  clear hW3 x0 x1 x2 x3 x4 x5 x6 x7 x8 y0 y1 y2 y3 y4 y5 y6 y7 y8 HX2 HB2 HKd
  obtain ⟨D, hD⟩ : ∃ D, D = docB layP h2 K := ⟨_, rfl⟩
  obtain ⟨P, hP⟩ : ∃ P, P = docB layQ h2 K := ⟨_, rfl⟩
  obtain ⟨E, hE⟩ : ∃ E, E = chk 1 h2 K := ⟨_, rfl⟩
  have HT3 : Hid (Tj W3) := Lib.hid (HT.out.below HB.out)
  have C1 : Hid (∀ W, Below W3.heap.size W3 W → Calls Tryz.prog 6 #[.agg (h2.cells (.slice A2 K.len c2))] W fun o w' => o = .returned (.tuple #[.string D, .int .i64 E]) ∧ Below W.heap.size W w') := Lib.hid (fun W hW => by
    have := Write_calls h2 K (.slice A2 K.len c2) W (HT3.out.below hW) (HKK.out.below hW) HD.out.2.2.2 (by have := HD.out.1; omega) HG.out
    unfold DocP at this
    rwa [← hD, ← hE] at this)
  have C2 : Hid (∀ W, Below W3.heap.size W3 W → Calls Tryz.prog 7 #[.agg (h2.cells (.slice A2 K.len c2))] W fun o w' => o = .returned (.tuple #[.string D, .int .i64 E]) ∧ Below W.heap.size W w') := Lib.hid (fun W hW => by
    have := rWrite_calls h2 K (.slice A2 K.len c2) W (HKK.out.below hW) HD.out.2.2.2 HG.out (by have := HD.out.1; omega) (by have := HCk.out; omega)
    unfold DocP at this
    rwa [← hD, ← hE] at this)
  have C3 : Hid (∀ W, Below W3.heap.size W3 W → Calls Tryz.prog 8 #[.agg (h2.cells (.slice A2 K.len c2))] W fun o w' => o = .returned (.tuple #[.string P, .int .i64 E]) ∧ Below W.heap.size W w') := Lib.hid (fun W hW => by
    have := Pretty_calls h2 K (.slice A2 K.len c2) W (HT3.out.below hW) (HKK.out.below hW) HD.out.2.2.2 (by have := HD.out.1; omega) HG.out
    unfold DocP at this
    rwa [← hP, ← hE] at this)
  have C4 : Hid (∀ W, Below W3.heap.size W3 W → Calls Tryz.prog 9 #[.agg (h2.cells (.slice A2 K.len c2))] W fun o w' => o = .returned (.tuple #[.string P, .int .i64 E]) ∧ Below W.heap.size W w') := Lib.hid (fun W hW => by
    have := rPretty_calls h2 K (.slice A2 K.len c2) W (HKK.out.below hW) HD.out.2.2.2 HG.out (by have := HD.out.1; omega) (by have := HCk.out; omega)
    unfold DocP at this
    rwa [← hP, ← hE] at this)
  have C5 : Hid (∀ W, Below W3.heap.size W3 W → Calls Tryz.prog 10 #[.agg (h2.cells (.slice A2 K.len c2))] W fun o w' => o = .returned (.tuple #[.int .i64 (D.size : Int), .int .i64 E]) ∧ Below W.heap.size W w') := Lib.hid (fun W hW => by
    have := Size_calls h2 K (.slice A2 K.len c2) W (HT3.out.below hW) (HKK.out.below hW) HD.out.2.2.2 (by have := HD.out.1; omega) HG.out
    rwa [← hD, ← hE] at this)
  simp only [Hd.cells] at C1 C2 C3 C4 C5
  have HBd : Hid (Below W3.heap.size W3 W3) := Lib.hid (Below.refl _ _)
  clear hD hP hE HKK HG HD HCk HCn HT3 HT
  refine (C1.out _ HBd.out).mono ?_
  rintro o w6 ⟨rfl, hb⟩
  replace HBd := Lib.hid (below_nx HBd.out hb)
  clear hb
  obtain ⟨q0, q1, q2, q3, q4, q5, q6, q7, q8⟩ := (HX.out.below HBd.out).nine
  go_wp2_with fail
  refine (C2.out _ HBd.out).mono ?_
  rintro o w7 ⟨rfl, hb⟩
  replace HBd := Lib.hid (below_nx HBd.out hb)
  clear hb q0 q1 q2 q3 q4 q5 q6 q7 q8
  obtain ⟨q0, q1, q2, q3, q4, q5, q6, q7, q8⟩ := (HX.out.below HBd.out).nine
  go_wp2_with fail
  refine (C3.out _ HBd.out).mono ?_
  rintro o w8 ⟨rfl, hb⟩
  replace HBd := Lib.hid (below_nx HBd.out hb)
  clear hb q0 q1 q2 q3 q4 q5 q6 q7 q8
  obtain ⟨q0, q1, q2, q3, q4, q5, q6, q7, q8⟩ := (HX.out.below HBd.out).nine
  go_wp2_with fail
  refine (C4.out _ HBd.out).mono ?_
  rintro o w9 ⟨rfl, hb⟩
  replace HBd := Lib.hid (below_nx HBd.out hb)
  clear hb q0 q1 q2 q3 q4 q5 q6 q7 q8
  obtain ⟨q0, q1, q2, q3, q4, q5, q6, q7, q8⟩ := (HX.out.below HBd.out).nine
  go_wp2_with fail
  refine (C5.out _ HBd.out).mono ?_
  rintro o w10 ⟨rfl, hb⟩
  replace HBd := Lib.hid (below_nx HBd.out hb)
  clear hb q0 q1 q2 q3 q4 q5 q6 q7 q8
  go_wp2_with fail
  go_ret
  exact ⟨rfl, below_nx HB.out HBd.out⟩
end Go.Proofs.YtomociaidccfmaaGreatDoor
