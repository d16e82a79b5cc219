/- A list's nodes that fit (plain mathematics); the document's own: Depth. The law CborwSizes. -/
import Derived.Test.YtppapkpceejnkaaGreatDoorZ6
import Derived.Test.YtppapkpceejnkaaGreatDoorMa
import Derived.Test.YtppapkpceejnkaaGreatDoorMr
namespace Go.Proofs.YtppapkpceejnkaaGreatDoor
open Go.RowKit

theorem app_nl : ∀ f : Fo, f.app .nil = f
  | .nil => rfl
  | .cons h k r => by rw [Fo.app, app_nl r]
theorem app_ln : ∀ (f g : Fo), (f.app g).len = f.len + g.len
  | .nil, g => (Nat.zero_add _).symm
  | .cons h k r, g => by rw [Fo.app, Fo.len, Fo.len, app_ln r g]; omega
theorem good_step {h : Hd} {K R : Fo} (hd : K.deep ≤ 17) (ha : AllG Gl (.cons h K .nil)) (ih : R.deep ≤ 18 ∧ AllG Gl R) : (Fo.cons h K R).deep ≤ 18 ∧ AllG Gl (.cons h K R) :=
  ⟨by have := ih.1; simp only [Fo.deep]; omega, allG_cons ha.1 ha.2.1 ih.2⟩
theorem cnt_step {h : Hd} {K R : Fo} {n : Nat} (hd : K.cnt ≤ 299) (ih : R.cnt ≤ 300 * n) : (Fo.cons h K R).cnt ≤ 300 * (n + 1) := by
  simp only [Fo.cnt]
  omega
theorem selF_good : ∀ f : Fo, (selF f).deep ≤ 18 ∧ AllG Gl (selF f)
  | .nil => ⟨Nat.zero_le _, trivial⟩
  | .cons h k r => by
    have ih := selF_good r
    rw [selF]
    obtain ⟨K, hK⟩ : ∃ K, K = fewK k := ⟨_, rfl⟩
    have h1 : K.deep ≤ 17 := by rw [hK]; exact few_deep k
    have h2 : AllG Gl (.cons (cutH h) K .nil) := by rw [hK]; exact few_all (cutH h) k
    rw [← hK]
    clear hK
    split
    · exact good_step h1 h2 ih
    · exact ih
theorem chk_cnt {h : Hd} {k : Fo} (e : chk 2 h k = 0) : k.cnt ≤ 299 := by
  unfold chk at e
  split at e
  · rename_i h1
    rw [rgt, rightR, Bool.and_eq_true] at h1
    have h2 := h1.1
    simp only [decide_eq_true_eq] at h2
    omega
  · cases e
theorem selF_cnt : ∀ f : Fo, (selF f).cnt ≤ 300 * f.len
  | .nil => Nat.zero_le _
  | .cons h k r => by
    have ih := selF_cnt r
    rw [selF]
    obtain ⟨K, hK⟩ : ∃ K, K = fewK k := ⟨_, rfl⟩
    rw [← hK, Fo.len]
    clear hK
    split
    · rename_i e
      exact cnt_step (chk_cnt e) ih
    · omega
/-- One node more. -/
theorem selF_one (f : Fo) (h : Hd) (k : Fo) {h2 : Hd} {K : Fo} (hh : h2 = cutH h) (hK : K = fewK k) (e : chk 2 h2 K = 0) : selF (f.app (.cons h k .nil)) = (selF f).app (.cons h2 K .nil) := by
  have h1 : selF (.cons h k .nil) = .cons h2 K .nil := by rw [selF, ← hh, ← hK, if_pos e]; rfl
  rw [selF_app, h1]
theorem selF_none (f : Fo) (h : Hd) (k : Fo) {h2 : Hd} {K : Fo} (hh : h2 = cutH h) (hK : K = fewK k) (e : chk 2 h2 K ≠ 0) : selF (f.app (.cons h k .nil)) = selF f := by
  have h1 : selF (.cons h k .nil) = .nil := by rw [selF, ← hh, ← hK, if_neg e]; rfl
  rw [selF_app, h1, app_nl]
theorem plB_one (f : Fo) (h : Hd) (k : Fo) : (plB (f.app (.cons h k .nil))).length = (plB f).length + (itB h k).length := by
  rw [plB_app, List.length_append]
  congr 1
set_option maxRecDepth 100000 in
set_option maxHeartbeats 1000000 in
theorem rDepth_any (n : Nat) : ∀ (k : Fo) (h : Hd) (v : Value) (w : World), k.cnt < n → k.deep < 1000 → Kd An w v k →
    Calls Tryz.prog 21 #[.agg (h.cells v)] w fun o w' => o = .returned (.int .i64 ((k.deep + 1 : Nat) : Int)) ∧ Below w.heap.size w w' := by
  induction n with
  | zero => intro k h v w hn; omega
  | succ n ih =>
    intro k h v w hn hdp hk
    obtain ⟨A, c, rfl, hc, hl, hL⟩ := hk.form
    have IH := Lib.hid ih
    have HL := Lib.hid hL
    have HN := Lib.hid hn
    have HDp := Lib.hid hdp
    clear ih hL hk hn hdp
    simp only [Hd.cells]
    go_enter Tryz.func21, Tryz.ntmps21
    go_wp2_with fail
    have HB0 := Lib.hid (Nx.new w h (.slice A k.len c))
    go_loopw [3, 4] (fun x i wr => ∃ j : Nat, i = .int .i64 j ∧ j ≤ k.len ∧ x = .int .i64 ((k.take j).deep : Int) ∧ Below w.heap.size w wr ∧ Nx wr w.heap.size h (.slice A k.len c)) (fun _ i _ => k.len - (intOf i).toNat)
    case atStart => exact ⟨0, rfl, Nat.zero_le _, rfl, below_a (Below.refl _ _) _, HB0.out⟩
    case round =>
      obtain ⟨j, rfl, hj, rfl, hb, hbx⟩ := hrel
      have HB := Lib.hid hb
      have HX := Lib.hid hbx
      have c8 := hbx.c8
      clear hb hbx HB0
      by_cases hgo : j < k.len
      · obtain ⟨B, o, rfl, hB, _, hLi⟩ := HL.out (by omega)
        obtain ⟨h', k', r, hd⟩ := drop_cons hgo
        have hLj := lies_drop j hLi
        rw [hd] at hLj
        obtain ⟨⟨v', hc', hk'⟩, hu', _⟩ := lies_cons.1 hLj
        have HK' := Lib.hid hk'
        have HD := Lib.hid hd
        obtain ⟨d0, d1, d2, d3, d4, d5, d6, d7, d8⟩ := (hc'.below HB.out).nine
        have hkd : k'.deep < 1000 := by have := drop_deep j k hd; have := HDp.out; omega
        clear hLi hLj hc' hk' hd hu'
        go_wp2_with fail
        refine (IH.out k' h' v' _ (by have := drop_cnt j k; rw [HD.out, Fo.cnt] at this; have := HN.out; omega) hkd (HK'.out.below HB.out)).mono ?_
        rintro e w1 ⟨rfl, hb1⟩
        obtain ⟨M, hM⟩ : ∃ M : Nat, M = max (k.take j).deep (k'.deep + 1) := ⟨_, rfl⟩
        have hMM : max ((k.take j).deep : Int) ((k'.deep + 1 : Nat) : Int) = (M : Int) := by omega
        have hMM2 : max ((k.take j).deep : Int) ((k'.deep : Int) + 1) = (M : Int) := by omega
        have HM := Lib.hid hM
        clear hM
        go_wp2_with fail
        go_roundw
        case rel =>
          refine ⟨j + 1, by go_num, hgo, ?_, below_nx HB.out hb1, HX.out.below hb1⟩
          rw [take_app j k HD.out, deep_app, HM.out]
          simp [Fo.deep]
        case measure => simp [intOf]; omega
      · have HE : Hid ((k.take j).deep = k.deep) := Lib.hid (by
          obtain rfl : j = k.len := by omega
          rw [take_all])
        rw [HE.out]
        have hdl : (k.deep : Int) < 1000 := by have := HDp.out; omega
        go_wp2_with fail
        go_ret
        exact ⟨by simp, HB.out⟩
theorem rDepth_calls (k : Fo) (h : Hd) (v : Value) (w : World) (hd : k.deep < 1000) (hk : Kd An w v k) :
    Calls Tryz.prog 21 #[.agg (h.cells v)] w fun o w' => o = .returned (.int .i64 ((k.deep + 1 : Nat) : Int)) ∧ Below w.heap.size w w' := rDepth_any (k.cnt + 1) k h v w (by omega) hd hk
end Go.Proofs.YtppapkpceejnkaaGreatDoor
namespace Go.Proofs.YtppapkpceejnkaaGreatDoor
open Go.RowKit

set_option maxRecDepth 100000 in
set_option maxHeartbeats 4000000 in
theorem sizes12_calls (k : Fo) (v : Value) (w : World) (hT : Tv w) (hk : Kd An w v k) : Calls Tryz.prog 13 #[v] w (BolP true w) := by
  obtain ⟨A, c, rfl, _, _, hL0⟩ := hk.form
  have HT := Lib.hid hT
  have HL := Lib.hid hL0
  clear hT hk hL0
  go_enter Tryz.func13, Tryz.ntmps13
  go_wp2_with fail
  refine (shown12_calls _ HT.out).mono ?_
  rintro o w1 ⟨rfl, hb1⟩
  have HB1 := Lib.hid hb1
  clear hb1
  have HX1 := Lib.hid (Nx.new w1 arrC (.slice none 0 0))
  obtain ⟨i0, hi0, hz0, hz1, hz2⟩ := infoN_parts
  have I0 := Lib.hid hi0
  have I1 := Lib.hid hz0
  have I2 := Lib.hid hz1
  have I3 := Lib.hid hz2
  clear hi0 hz0 hz1 hz2
  go_wp2_with fail
  go_loopw [5, 6] (fun s i wr => ∃ (j m sN : Nat) (G : Fo) (xs : List Value) (x : Value), i = .int .i64 j ∧ j ≤ k.len ∧ j ≤ 6 ∧ G = selF (k.take j) ∧ s = .int .i64 sN ∧ sN = 1 + (plB G).length ∧ sN ≤ 1 + j * 122700 ∧ m = G.len ∧ m ≤ j ∧ wr.ownsRow (w1.heap.size + 1) 28 9 x m xs ∧ Rw (fun b => w1.heap.size + 1 ≤ b ∧ x.ownBlock ≠ some b) wr G xs ∧ Below w.heap.size w wr ∧ Nx wr w1.heap.size arrC x) (fun _ i _ => k.len - (intOf i).toNat)
  case atStart => exact ⟨0, 0, 1, .nil, [], _, rfl, Nat.zero_le _, by omega, rfl, rfl, rfl, by omega, rfl, Nat.le_refl _, World.ownsRow_nil _ _ _ _, rfl, below_a HB1.out _, HX1.out⟩
  case round =>
    obtain ⟨j, m, sN, G, xs, x, rfl, hj, hj6, hG, rfl, hsN, hsL, hm, hmj, hown, hrw, hb, hbx⟩ := hrel
    have HG := Lib.hid hG
    have HS := Lib.hid hsN
    have HM := Lib.hid hm
    have HO := Lib.hid hown
    have HR := Lib.hid hrw
    have HB := Lib.hid hb
    have HX := Lib.hid hbx
    have hz := hbx.lt
    clear hG hsN hm hown hrw hb hbx HX1
    by_cases hgo : j < k.len ∧ j < 6
    · obtain ⟨g1, g2⟩ := hgo
      obtain ⟨B, o, rfl, hB, _, hLi⟩ := HL.out (by omega)
      obtain ⟨h', k', r, hd⟩ := drop_cons g1
      have hLj := lies_drop j hLi
      rw [hd] at hLj
      obtain ⟨⟨v', hc', hk'⟩, hu', _⟩ := lies_cons.1 hLj
      have HK' := Lib.hid hk'
      have HDr := Lib.hid hd
      have HU' := Lib.hid hu'
      obtain ⟨d0, d1, d2, d3, d4, d5, d6, d7, d8⟩ := (hc'.below HB.out).nine
      clear hLi hLj hc' hk' hd hu'
      go_wp2_with fail
      refine (Few_calls k' h' v' _ (HK'.out.below HB.out) HU'.out).mono ?_
      rintro o1 w2 ⟨v2, rfl, hk2, hb2⟩
      obtain ⟨h2, hh2⟩ : ∃ h2, h2 = cutH h' := ⟨_, rfl⟩
      obtain ⟨K, hKK⟩ : ∃ K, K = fewK k' := ⟨_, rfl⟩
      have HD : Hid (K.deep < 1000 ∧ h2.u < 18446744073709551616 ∧ AllG Gl (.cons h2 K .nil)) := Lib.hid (by rw [hKK, hh2]; exact ⟨Nat.lt_of_le_of_lt (few_deep k') (by decide), HU'.out, few_all _ k'⟩)
      rw [← hh2]
      rw [← hKK] at hk2
      have HE := Lib.hid (And.intro hh2 hKK)
      have HK2 := Lib.hid hk2
      have HB2 := Lib.hid hb2
      obtain ⟨A2, c2, rfl, _, _, _⟩ := hk2.form
      clear hk2 hb2 hh2 hKK d0 d1 d2 d3 d4 d5 d6 d7 d8
      have HN := Lib.hid (Nx.new w2 h2 (.slice A2 K.len c2))
      obtain ⟨D, hD⟩ : ∃ D, D = (docI h2 K).size := ⟨_, rfl⟩
      obtain ⟨e, he⟩ : ∃ e, e = chk 2 h2 K := ⟨_, rfl⟩
      have HW : Hid (Calls Tryz.prog 28 #[.agg (h2.cells (.slice A2 K.len c2))] (w2.alloc (.cells (h2.cells (.slice A2 K.len c2)) 28)) fun o w' => o = .returned (.tuple #[.int .i64 (D : Int), .int .i64 e]) ∧ Below (w2.heap.size + 1) (w2.alloc (.cells (h2.cells (.slice A2 K.len c2)) 28)) w') := Lib.hid (by
        have := Size_calls12 h2 K (.slice A2 K.len c2) (w2.alloc (.cells (h2.cells (.slice A2 K.len c2)) 28)) (HT.out.below (below_a (below_nx HB.out HB2.out) _)) (HK2.out.below (below_a (Below.refl _ _) _) |>.mono fun _ _ _ => trivial) HD.out.2.1 HD.out.1 HD.out.2.2
        rw [World.size_alloc] at this
        rwa [← hD, ← he] at this)
      have HDe : Hid (e = 0 → D = (itB h2 K).length ∧ D ≤ 122700) := Lib.hid (fun h0 => by
        have h1 : chk 2 h2 K = 0 := by rw [← he]; exact h0
        have h2' := itB_le h1 (gu_one HK2.out HD.out.2.1)
        have h3 : D = (itB h2 K).length := by rw [hD, docI, if_pos h1, arB_size]
        exact ⟨h3, by omega⟩)
      have HT1 : Hid (k.take (j + 1) = (k.take j).app (.cons h' k' .nil)) := Lib.hid (take_app j _ HDr.out)
      have HG1 : Hid (e = 0 → selF (k.take (j + 1)) = G.app (.cons h2 K .nil)) := Lib.hid (fun h0 => by rw [HT1.out, HG.out]; exact selF_one _ _ _ HE.out.1 HE.out.2 (by rw [← he]; exact h0))
      have HG2 : Hid (e ≠ 0 → selF (k.take (j + 1)) = G) := Lib.hid (fun h0 => by rw [HT1.out, HG.out]; exact selF_none _ _ _ HE.out.1 HE.out.2 (by rw [← he]; exact h0))
      simp only [Hd.cells] at HW ⊢
      clear hD he
      obtain ⟨q0, q1, q2, q3, q4, q5, q6, q7, q8⟩ := HN.out.nine
      go_wp2_with fail
      refine HW.out.mono ?_
      rintro o3 w3 ⟨rfl, hb3⟩
      have HB3 : Hid (Below wr.heap.size wr w3) := Lib.hid ((below_a HB2.out _).trans (hb3.mono (by have := HB2.out.size; omega)))
      have HX3 := Lib.hid (HX.out.below HB3.out)
      have HN3 : Hid (Nx w3 w2.heap.size h2 (.slice A2 K.len c2)) := Lib.hid (HN.out.below (by rw [World.size_alloc]; exact hb3))
      have HK3 : Hid (Kd (fun b => wr.heap.size ≤ b) w3 (.slice A2 K.len c2) K) := Lib.hid ((HK2.out.below (below_a (Below.refl _ _) _)).below (by rw [World.size_alloc]; exact hb3))
      clear hb3 q0 q1 q2 q3 q4 q5 q6 q7 q8
      obtain ⟨q0, q1, q2, q3, q4, q5, q6, q7, q8⟩ := HN3.out.nine
      have c8 := HX3.out.c8
      by_cases he0 : e = 0
      · subst he0
        have HDl := Lib.hid (HDe.out rfl).1
        have hDs : D ≤ 122700 := (HDe.out rfl).2
        go_wp2_with (
          at_builtin
          refine wpList_append_lies _ rfl (.tmp 40) (.tmp 42) 26 rfl (w1.heap.size + 1) 28 i0 _ 9 104 Tryz.underlying26 I0.out I1.out I2.out I3.out rfl (by decide) x m xs rfl ((owns_below HO.out HB3.out).alloc _) ⟨w3.heap.size, 0, none⟩ 1 1 ((h2.cells (.slice A2 K.len c2)).toList) rfl rfl (news_blk (h2.cells (.slice A2 K.len c2)) (heap_alloc_new w3 _)) (by intro u hu; simp [Hd.cells] at hu; rcases hu with rfl | rfl | rfl | rfl | rfl | rfl | rfl | rfl | rfl <;> rfl) (by decide) (by unfold maxLen; omega) (by omega) (by have := HB3.out.size; simp; omega) _ rfl ?_
          intro g cp w4 hown4 hg4 hl4 hlt4
          have HX4 : Hid (Nx w4 w1.heap.size arrC x) := Lib.hid (by
            have q := HX3.out.alloc (.cells (h2.cells (.slice A2 K.len c2)) 28)
            exact (hg4.block _ q.lt (fun e => by have := owns_block HO.out e.symm; omega)).trans q)
          have HF : Hid ((w4.setCell ⟨w1.heap.size, 8, none⟩ (.slice (some ⟨g, 0, none⟩) (m + 1) cp)).ownsRow (w1.heap.size + 1) 28 9 (.slice (some ⟨g, 0, none⟩) (m + 1) cp) (m + 1) (xs ++ (h2.cells (.slice A2 K.len c2)).toList) ∧ Rw (fun b => w1.heap.size + 1 ≤ b ∧ (Value.slice (some ⟨g, 0, none⟩) (m + 1) cp).ownBlock ≠ some b) (w4.setCell ⟨w1.heap.size, 8, none⟩ (.slice (some ⟨g, 0, none⟩) (m + 1) cp)) (G.app (.cons h2 K .nil)) (xs ++ (h2.cells (.slice A2 K.len c2)).toList) ∧ Below w.heap.size w (w4.setCell ⟨w1.heap.size, 8, none⟩ (.slice (some ⟨g, 0, none⟩) (m + 1) cp)) ∧ Nx (w4.setCell ⟨w1.heap.size, 8, none⟩ (.slice (some ⟨g, 0, none⟩) (m + 1) cp)) w1.heap.size arrC (.slice (some ⟨g, 0, none⟩) (m + 1) cp)) := Lib.hid (by
            refine ⟨ownsRow_setCell_below hown4 (Nat.lt_succ_self _) _, ?_, ?_, Bx.set HX4.out 8 _⟩
            · exact Rw.kept (by rw [World.size_setCell]; exact Nat.le_refl _) (fun b h1 _ => heap_setCell_other _ ⟨w1.heap.size, 8, none⟩ b _ (by have := h1.1; show b ≠ w1.heap.size; omega)) (rw_step HB3.out HR.out HO.out HK3.out hg4 hl4 (by omega) HD.out.2.1)
            · refine Below.setCell ?_ (show w.heap.size ≤ w1.heap.size from HB1.out.size) _
              exact (below_a (below_nx HB.out HB3.out) _).grown hg4 (by rw [World.size_alloc]; have := HB3.out.size; have := HB1.out.size; omega) (fun r e => by have := (owns_block HO.out e).1; have := HB1.out.size; omega))
          have f8 := Bx.f HX4.out 8
          have c8' := HX4.out.c8
          clear hown4 hg4 hl4 hlt4)
        go_roundw
        case measure => simp [intOf]; omega
        case rel =>
          refine ⟨j + 1, m + 1, sN + D, G.app (.cons h2 K .nil), _, _, by go_num, g1, by omega, (HG1.out trivial).symm, by go_num, ?_, by omega, ?_, by omega, HF.out⟩
          · rw [plB_one, HS.out, HDl.out]; omega
          · rw [HM.out, app_ln]; rfl
      · have he1 : (e != 0) = true := by simpa using he0
        go_wp2_with fail
        go_roundw
        case measure => simp [intOf]; omega
        case rel =>
          refine ⟨j + 1, m, sN, G, xs, x, by go_num, g1, by omega, (HG2.out he0).symm, rfl, HS.out, Nat.le_trans hsL (Nat.add_le_add_left (Nat.mul_le_mul_right _ (Nat.le_succ j)) 1), HM.out, Nat.le_succ_of_le hmj, owns_below HO.out HB3.out, Rw.kept HB3.out.size (fun b h1 h2 => HB3.out.block b h2) HR.out, below_nx HB.out HB3.out, HX3.out⟩
    · obtain ⟨A5, c5, rfl⟩ : ∃ A5 c5, x = .slice A5 m c5 := by
        obtain ⟨_, ⟨h, h'⟩ | ⟨g, cap, cur, h, _⟩⟩ := HO.out
        · exact ⟨none, 0, by rw [h, h']⟩
        · exact ⟨_, _, h⟩
      have HGf : Hid (G.deep ≤ 18 ∧ AllG Gl (.cons arrC G .nil) ∧ G.cnt ≤ 1800) := Lib.hid (by
        have h1 := selF_good (k.take j)
        have h2 := selF_cnt (k.take j)
        rw [take_len _ _ hj, ← HG.out] at h2
        rw [← HG.out] at h1
        exact ⟨h1.1, allG_cons (gl_of (by have := HM.out; omega)) h1.2 trivial, by omega⟩)
      have HKx : Hid (Kd An wr (.slice A5 m c5) G) := Lib.hid (by
        have hR := HR.out
        have hO := HO.out
        have hM := HM.out
        rw [hM] at hO ⊢
        have hK := kd_of_owns (P := fun b => w1.heap.size + 1 ≤ b) hO (hR.mono fun b h1 _ => h1.1) (fun b h1 _ => (owns_block hO h1).1) (by omega)
        exact hK.mono fun _ _ _ => trivial)
      obtain ⟨D, hD⟩ : ∃ D, D = (docI arrC G).size := ⟨_, rfl⟩
      obtain ⟨e, he⟩ : ∃ e, e = chk 2 arrC G := ⟨_, rfl⟩
      have HW : Hid (Calls Tryz.prog 28 #[.agg (arrC.cells (.slice A5 m c5))] wr fun o w' => o = .returned (.tuple #[.int .i64 (D : Int), .int .i64 e]) ∧ Below wr.heap.size wr w') := Lib.hid (by
        have := Size_calls12 arrC G _ wr (HT.out.below HB.out) HKx.out (by decide) (by have := HGf.out.1; omega) HGf.out.2.1
        rwa [← hD, ← he] at this)
      have HC : Hid ((e = 0 ∧ D = sN) ∨ (e = 60 ∧ (300 < 1 + G.cnt ∨ 16 < G.deep + 1))) := Lib.hid (by
        have h1 := chk_sel (k.take j)
        rw [← HG.out, ← he] at h1
        by_cases h2 : 1 + G.cnt ≤ 300 ∧ G.deep + 1 ≤ 16
        · rw [if_pos h2] at h1
          refine .inl ⟨h1, ?_⟩
          rw [hD, docI, if_pos (by rw [← he]; exact h1), arB_size, sel_bytes (by have := HM.out; omega), HS.out]
        · rw [if_neg h2] at h1
          exact .inr ⟨h1, by omega⟩)
      have hcn := HGf.out.2.2
      have HCt : Hid (∀ W, Below wr.heap.size wr W → Calls Tryz.prog 29 #[.agg (arrC.cells (.slice A5 m c5))] W fun o w' => o = .returned (.int .i64 (wrap64 (1 + (G.cnt : Int)))) ∧ Below W.heap.size W w') := Lib.hid (fun W hW => rCount_calls G arrC _ W (HKx.out.below hW))
      have HDp : Hid (∀ W, Below wr.heap.size wr W → Calls Tryz.prog 21 #[.agg (arrC.cells (.slice A5 m c5))] W fun o w' => o = .returned (.int .i64 ((G.deep + 1 : Nat) : Int)) ∧ Below W.heap.size W w') := Lib.hid (fun W hW => rDepth_calls G arrC _ W (by have := HGf.out.1; omega) (HKx.out.below hW))
      simp only [Hd.cells] at HW HCt HDp
      clear hD he HKx
      obtain ⟨q0, q1, q2, q3, q4, q5, q6, q7, q8⟩ := HX.out.nine
      have hend : (¬ (j : Int) < (k.len : Int)) ∨ ((j : Int) < (k.len : Int) ∧ ¬ (j : Int) < 6) := by omega
      rcases hend with h1 | ⟨h1, h2⟩
      all_goals go_wp2_with fail
      all_goals refine HW.out.mono ?_
      all_goals rintro o3 w3 ⟨rfl, hb3⟩
      all_goals have HB3 := Lib.hid hb3
      all_goals clear hb3 q0 q1 q2 q3 q4 q5 q6 q7 q8
      all_goals obtain ⟨q0, q1, q2, q3, q4, q5, q6, q7, q8⟩ := (HX.out.below HB3.out).nine
      all_goals
        rcases HC.out with ⟨rfl, rfl⟩ | ⟨rfl, hs⟩
        · go_wp2_with fail
          go_ret
          exact ⟨by simp, below_nx HB.out HB3.out⟩
        · have hcw : wrap64 (1 + (G.cnt : Int)) = ((1 + G.cnt : Nat) : Int) := by unfold wrap64; omega
          rw [hcw] at HCt
          by_cases hc : 300 < 1 + G.cnt
          · have hc2 : (300 : Int) < 1 + (G.cnt : Int) := by omega
            clear hs hcw
            go_wp2_with fail
            refine (HCt.out _ HB3.out).mono ?_
            rintro o4 w4 ⟨rfl, hb4⟩
            have HB4 := Lib.hid (below_nx HB3.out hb4)
            clear hb4
            go_wp2_with fail
            go_ret
            exact ⟨rfl, below_nx HB.out HB4.out⟩
          · have hc2 : ¬ (300 : Int) < 1 + (G.cnt : Int) := by omega
            have hc3 : (16 : Int) < (G.deep : Int) + 1 := by omega
            have hc4 : (decide ((300 : Int) < 1 + (G.cnt : Int)) || decide ((16 : Int) < (G.deep : Int) + 1)) = true := by simp [hc2, hc3]
            clear hs hcw
            go_wp2_with fail
            refine (HCt.out _ HB3.out).mono ?_
            rintro o4 w4 ⟨rfl, hb4⟩
            have HB4 := Lib.hid (below_nx HB3.out hb4)
            clear hb4 q0 q1 q2 q3 q4 q5 q6 q7 q8
            obtain ⟨q0, q1, q2, q3, q4, q5, q6, q7, q8⟩ := (HX.out.below HB4.out).nine
            go_wp2_with fail
            refine (HDp.out _ HB4.out).mono ?_
            rintro o5 w5 ⟨rfl, hb5⟩
            have HB5 := Lib.hid (below_nx HB4.out hb5)
            clear hb5
            go_wp2_with fail
            go_ret
            first
              | exact ⟨rfl, below_nx HB.out HB5.out⟩
              | exact ⟨congrArg (fun b => Ending.returned (Value.bool b)) hc4, below_nx HB.out HB5.out⟩
end Go.Proofs.YtppapkpceejnkaaGreatDoor
