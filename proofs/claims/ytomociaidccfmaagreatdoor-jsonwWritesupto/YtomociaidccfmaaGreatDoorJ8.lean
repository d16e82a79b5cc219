/- The program's own: document, Write, Pretty, Size. -/
import Derived.Test.YtomociaidccfmaaGreatDoorJ7
namespace Go.Proofs.YtomociaidccfmaaGreatDoor
open Go.RowKit

theorem fmt_pos {n : Bool} {s : ByteArray} {e : Int} (h : rightD n s.data.toList e = true) : 0 < (sgnB n (fmtB s e)).size := by
  rcases Nat.eq_zero_or_pos (sgnB n (fmtB s e)).size with h0 | h0
  · have h1 := parse_fmt (t := []) h Stop.nil
    rw [← fmtB_data, ← sgnB_data, List.append_nil] at h1
    have h2 : (sgnB n (fmtB s e)).data.toList = [] := List.eq_nil_of_length_eq_zero (by rw [Array.length_toList]; exact h0)
    rw [h2] at h1
    exact absurd h1 (by rw [show parseR [] = none from rfl]; simp)
  · exact h0
theorem nodeB_pos {L : Lay} {i : Nat} {h : Hd} {k : Fo} (hg : Gj h k) : 0 < (nodeB L i h k).size := by
  unfold nodeB wrapB
  split
  · rw [ByteArray.size_append, show (ByteArray.mk #[93]).size = 1 from rfl]; omega
  · split
    · rw [ByteArray.size_append, show (ByteArray.mk #[125]).size = 1 from rfl]; omega
    · unfold leafB
      split
      · show 0 < 4; decide
      · split
        · unfold truthB; split <;> decide
        · split
          · rename_i h3
            rcases hg.1 with e | e | ⟨e, er⟩ | ⟨e, _⟩ | e | e
            · omega
            · omega
            · exact fmt_pos er
            · omega
            · omega
            · omega
          · show 0 < (34 :: (escAll h.s.data.toList ++ [34])).length
            simp
/-- The plain layout, the pretty one. -/
def layP : Lay := ⟨⟨#[]⟩, ⟨#[]⟩, ⟨#[]⟩⟩
def layQ : Lay := ⟨⟨#[10]⟩, ⟨#[32, 32]⟩, ⟨#[32]⟩⟩
theorem okP : layP.ok := ⟨by decide, by decide, by decide⟩
theorem okQ : layQ.ok := ⟨by decide, by decide, by decide⟩
/-- What the world must hold. -/
def Tj (w : World) : Prop := Tq w ∧ Tab w
theorem Tj.below {A B : World} (h : Tj A) (hb : Below A.heap.size A B) : Tj B := ⟨h.1.below hb, h.2.below hb⟩
/-- A tree's document, none if it does not fit. -/
def docB (L : Lay) (h : Hd) (k : Fo) : ByteArray := if chk 1 h k = 0 then nodeB L 0 h k else ⟨#[]⟩
def DocP (L : Lay) (h : Hd) (k : Fo) (w : World) (o : Ending) (w' : World) : Prop := o = .returned (.tuple #[.string (docB L h k), .int .i64 (chk 1 h k)]) ∧ Below w.heap.size w w'
set_option maxRecDepth 100000 in
set_option maxHeartbeats 1000000 in
theorem document_calls (L : Lay) (hL : L.ok) (h : Hd) (k : Fo) (v : Value) (w : World) (hT : Tj w) (hk : Kd An w v k) (hu : h.u < 18446744073709551616) (hd : k.deep < 1000) (hS : AllG Gl (.cons h k .nil)) :
    Calls Tryz.prog 13 #[.agg (h.cells v), .agg #[.string L.e, .string L.d, .string L.k]] w (DocP L h k w) := by
  obtain ⟨A, c, rfl, _, _, _⟩ := hk.form
  obtain ⟨e, he⟩ : ∃ e, e = chk 1 h k := ⟨_, rfl⟩
  have HC : Hid (∀ W, Below w.heap.size w W → Calls Tryz.prog 16 #[.agg (h.cells (.slice A k.len c)), .int .i64 1] W fun o w' => o = .returned (.int .i64 e) ∧ Below W.heap.size W w') := Lib.hid (fun W hb => by rw [he]; exact Check_calls 1 k h _ W (hT.1.below hb) (hk.below hb) hu hd hS)
  have HE := Lib.hid he
  have HT := Lib.hid hT
  have HK := Lib.hid hk
  have HU := Lib.hid hu
  have HLo := Lib.hid hL
  obtain ⟨W1, hW1⟩ : ∃ W1, W1 = (w.alloc (.cells (h.cells (.slice A k.len c)) 27)).alloc (.cells #[.string L.e, .string L.d, .string L.k] 40) := ⟨_, rfl⟩
  have HX : Hid (Nx W1 w.heap.size h (.slice A k.len c)) := Lib.hid (by rw [hW1]; exact (Nx.new w h _).alloc _)
  have HY : Hid (Bx W1 (w.heap.size + 1) #[.string L.e, .string L.d, .string L.k] 40) := Lib.hid (by rw [hW1]; exact Bx.new1 w _ _ _)
  have HB1 : Hid (Below w.heap.size w W1) := Lib.hid (by rw [hW1]; exact below_a (below_a (Below.refl _ _) _) _)
  obtain ⟨q0, q1, q2, q3, q4, q5, q6, q7, q8⟩ := HX.out.nine
  obtain ⟨D, hD⟩ : ∃ D, D = docB L h k := ⟨_, rfl⟩
  have HDd : Hid ((e = 0 → D = nodeB L 0 h k) ∧ (e ≠ 0 → D = ⟨#[]⟩)) := Lib.hid ⟨fun h => by rw [hD, docB, if_pos (he ▸ h)], fun h => by rw [hD, docB, if_neg (he ▸ h)]⟩
  unfold DocP
  rw [← he, ← hD]
  clear he hD hT hk hu hL
  simp only [Hd.cells] at HC hW1 ⊢
  go_enter Tryz.func13, Tryz.ntmps13
  go_wp2_with fail
  rw [← hW1]
  clear hW1
  go_wp2_with fail
  refine (HC.out _ HB1.out).mono ?_
  rintro o w2 ⟨rfl, hb2⟩
  have HX2 := Lib.hid (HX.out.below hb2)
  have HY2 := Lib.hid (HY.out.below hb2)
  have HB2 := Lib.hid (below_nx HB1.out hb2)
  clear hb2 HC HX HY HB1 q0 q1 q2 q3 q4 q5 q6 q7 q8
  by_cases hz : e = 0
  · subst hz
    obtain ⟨hgj, hcn, hdp⟩ := chk_fits HE.out.symm
    have y0 := HY2.out.c 0 rfl
    have y1 := HY2.out.c 1 rfl
    have y2 := HY2.out.c 2 rfl
    have hdl := docs_le HLo.out k 1 (h.kind == 8) false hgj.2.1 (by omega)
    have hnl := nodeB_le (i := 0) HLo.out hgj.1 (by omega) hdl
    have hcm : k.cnt * 2700 ≤ 299 * 2700 := Nat.mul_le_mul_right _ (by omega)
    obtain ⟨Z, hZ⟩ : ∃ Z, Z = (nodeB L 0 h k).size := ⟨_, rfl⟩
    have hZb : Z ≤ 900000 := by omega
    have hbud : (k.deep + 2) * (302 * Z + 300) ≤ 17 * (302 * 900000 + 300) := Nat.mul_le_mul (by omega) (by omega)
    have HN : Hid (∀ b M W, Wr w2 b M L ((0 : Nat) : Int) ⟨#[]⟩ W → Calls Tryz.prog 18 #[.pointer (some ⟨b, 0, none⟩), .agg (h.cells (.slice A k.len c))] W (PutP w2 b M L ((0 : Nat) : Int) (⟨#[]⟩ ++ nodeB L 0 h k) W)) := Lib.hid (fun b M W hw =>
      node_all (Z := Z) HLo.out (HT.out.2.below HB2.out) (by omega) (k.cnt + 1) h k _ 0 ⟨#[]⟩ W (by omega) hw (HK.out.below HB2.out) HU.out hgj (by omega) (by rw [show (ByteArray.mk #[]).size = 0 from rfl]; omega) (by omega))
    have HPos := Lib.hid (nodeB_pos (L := L) (i := 0) hgj.1)
    clear hZ hZb hbud hcm hnl hdl hgj hcn hdp
    simp only [Hd.cells] at HN
    go_wp2_with fail
    refine (newWriter_calls L w2).mono ?_
    rintro o w3 ⟨b, M, rfl, hw⟩
    have HW := Lib.hid hw
    have HB3 := Lib.hid (below_nx HB2.out hw.hw)
    obtain ⟨q0, q1, q2, q3, q4, q5, q6, q7, q8⟩ := (HX2.out.below hw.hw).nine
    clear hw y0 y1 y2
    go_wp2_with fail
    refine (HN.out _ _ _ HW.out).mono ?_
    rintro o w4 ⟨rfl, h4, hk4⟩
    have hb4 : Below w.heap.size w w4 := HB3.out.trans (hk4.1.mono HB2.out.size)
    rw [e_app] at h4
    obtain ⟨_, p, v, _, h5⟩ := h4
    have H5 := Lib.hid h5
    have HB4 := Lib.hid hb4
    clear h5 hb4 hk4 q0 q1 q2 q3 q4 q5 q6 q7 q8
    go_wp2_with fail
    refine (String_calls H5.out HPos.out).mono ?_
    rintro o w5 ⟨rfl, hb5⟩
    have HB5 := Lib.hid (HB4.out.trans (hb5.mono HB2.out.size))
    clear hb5
    go_wp2
    go_ret2
    exact ⟨by rw [HDd.out.1 (by trivial)]; rfl, HB5.out⟩
  · have hz2 : (e != 0) = true := by simpa using hz
    have hz3 : (e == 0) = false := by simpa using hz
    go_wp2_with fail
    go_ret2
    exact ⟨by rw [HDd.out.2 hz]; rfl, HB2.out⟩
set_option maxRecDepth 100000 in
theorem Write_calls (h : Hd) (k : Fo) (v : Value) (w : World) (hT : Tj w) (hk : Kd An w v k) (hu : h.u < 18446744073709551616) (hd : k.deep < 1000) (hS : AllG Gl (.cons h k .nil)) :
    Calls Tryz.prog 6 #[.agg (h.cells v)] w (DocP layP h k w) := by
  obtain ⟨A, c, rfl, _, _, _⟩ := hk.form
  have HD := Lib.hid (document_calls layP okP h k (.slice A k.len c) (w.alloc (.cells (h.cells (.slice A k.len c)) 27)) (hT.below (below_a (Below.refl _ _) _)) (hk.below (below_a (Below.refl _ _) _)) hu hd hS)
  obtain ⟨q0, q1, q2, q3, q4, q5, q6, q7, q8⟩ := (Nx.new w h (.slice A k.len c)).nine
  obtain ⟨D, hD⟩ : ∃ D, D = docB layP h k := ⟨_, rfl⟩
  obtain ⟨e, he⟩ : ∃ e, e = chk 1 h k := ⟨_, rfl⟩
  unfold DocP at HD ⊢
  rw [← hD, ← he] at HD ⊢
  clear hD he hT hk hu
  simp only [Hd.cells] at HD ⊢
  go_enter Tryz.func6, Tryz.ntmps6
  go_wp2_with fail
  refine HD.out.mono ?_
  rintro o w2 ⟨rfl, hb2⟩
  have HB2 := Lib.hid (below_nx (below_a (Below.refl _ _) _) hb2)
  clear hb2 q0 q1 q2 q3 q4 q5 q6 q7 q8
  go_wp2
  go_ret2
  exact ⟨rfl, HB2.out⟩
set_option maxRecDepth 100000 in
theorem Pretty_calls (h : Hd) (k : Fo) (v : Value) (w : World) (hT : Tj w) (hk : Kd An w v k) (hu : h.u < 18446744073709551616) (hd : k.deep < 1000) (hS : AllG Gl (.cons h k .nil)) :
    Calls Tryz.prog 8 #[.agg (h.cells v)] w (DocP layQ h k w) := by
  obtain ⟨A, c, rfl, _, _, _⟩ := hk.form
  have HD := Lib.hid (document_calls layQ okQ h k (.slice A k.len c) (w.alloc (.cells (h.cells (.slice A k.len c)) 27)) (hT.below (below_a (Below.refl _ _) _)) (hk.below (below_a (Below.refl _ _) _)) hu hd hS)
  obtain ⟨q0, q1, q2, q3, q4, q5, q6, q7, q8⟩ := (Nx.new w h (.slice A k.len c)).nine
  obtain ⟨D, hD⟩ : ∃ D, D = docB layQ h k := ⟨_, rfl⟩
  obtain ⟨e, he⟩ : ∃ e, e = chk 1 h k := ⟨_, rfl⟩
  unfold DocP at HD ⊢
  rw [← hD, ← he] at HD ⊢
  clear hD he hT hk hu
  simp only [Hd.cells] at HD ⊢
  go_enter Tryz.func8, Tryz.ntmps8
  go_wp2_with fail
  refine HD.out.mono ?_
  rintro o w2 ⟨rfl, hb2⟩
  have HB2 := Lib.hid (below_nx (below_a (Below.refl _ _) _) hb2)
  clear hb2 q0 q1 q2 q3 q4 q5 q6 q7 q8
  go_wp2
  go_ret2
  exact ⟨rfl, HB2.out⟩
set_option maxRecDepth 100000 in
theorem Size_calls (h : Hd) (k : Fo) (v : Value) (w : World) (hT : Tj w) (hk : Kd An w v k) (hu : h.u < 18446744073709551616) (hd : k.deep < 1000) (hS : AllG Gl (.cons h k .nil)) :
    Calls Tryz.prog 10 #[.agg (h.cells v)] w fun o w' => o = .returned (.tuple #[.int .i64 ((docB layP h k).size : Int), .int .i64 (chk 1 h k)]) ∧ Below w.heap.size w w' := by
  obtain ⟨A, c, rfl, _, _, _⟩ := hk.form
  have HD := Lib.hid (Write_calls h k (.slice A k.len c) (w.alloc (.cells (h.cells (.slice A k.len c)) 27)) (hT.below (below_a (Below.refl _ _) _)) (hk.below (below_a (Below.refl _ _) _)) hu hd hS)
  obtain ⟨q0, q1, q2, q3, q4, q5, q6, q7, q8⟩ := (Nx.new w h (.slice A k.len c)).nine
  obtain ⟨D, hD⟩ : ∃ D, D = docB layP h k := ⟨_, rfl⟩
  obtain ⟨e, he⟩ : ∃ e, e = chk 1 h k := ⟨_, rfl⟩
  unfold DocP at HD
  rw [← hD, ← he] at HD ⊢
  clear hD he hT hk hu
  simp only [Hd.cells] at HD ⊢
  go_enter Tryz.func10, Tryz.ntmps10
  go_wp2_with fail
  refine HD.out.mono ?_
  rintro o w2 ⟨rfl, hb2⟩
  have HB2 := Lib.hid (below_nx (below_a (Below.refl _ _) _) hb2)
  clear hb2 q0 q1 q2 q3 q4 q5 q6 q7 q8
  go_wp2
  go_ret2
  exact ⟨rfl, HB2.out⟩
end Go.Proofs.YtomociaidccfmaaGreatDoor
