/- The law JsonwLists. -/
import Derived.Test.YtallgamfjbkdgaaGreatDoorB0
namespace Go.Proofs.YtallgamfjbkdgaaGreatDoor
open Go.RowKit

set_option maxRecDepth 100000 in
set_option maxHeartbeats 4000000 in
theorem lists_calls (k : Fo) (v : Value) (w : World) (hT : Tj w) (hk : Kd An w v k) : Calls Tryz.prog 5 #[v] w (BolP true w) := by
  obtain ⟨A, c, rfl, _, _, hL0⟩ := hk.form
  have HT := Lib.hid hT
  have HL := Lib.hid hL0
  clear hT hk hL0
  go_enter Tryz.func5, Tryz.ntmps5
  go_wp2_with fail
  refine (jshown_calls _ HT.out).mono ?_
  rintro o w1 ⟨rfl, hb1⟩
  have HB1 := Lib.hid hb1
  clear hb1
  have HX1 := Lib.hid (Nx.new w1 hL (.slice none 0 0))
  obtain ⟨i0, hi0, hz0, hz1, hz2⟩ := infoN_parts
  have I0 := Lib.hid hi0
  have I1 := Lib.hid hz0
  have I2 := Lib.hid hz1
  have I3 := Lib.hid hz2
  clear hi0 hz0 hz1 hz2
  go_wp2_with fail
  go_loopw [5, 6, 7] (fun s b i wr => ∃ (j : Nat) (xs : List Value) (x : Value), i = .int .i64 j ∧ j ≤ k.len ∧ j ≤ 5 ∧ s = .string (wA ⟨#[91]⟩ false (fewF (k.take j))) ∧ b = .bool (okA (fewF (k.take j))) ∧ wr.ownsRow (w1.heap.size + 1) 27 9 x j xs ∧ Rw (fun b => w1.heap.size + 1 ≤ b ∧ x.ownBlock ≠ some b) wr (fewF (k.take j)) xs ∧ Below w.heap.size w wr ∧ Nx wr w1.heap.size hL x) (fun _ _ i _ => k.len - (intOf i).toNat)
  case atStart => exact ⟨0, [], _, rfl, Nat.zero_le _, by omega, rfl, rfl, World.ownsRow_nil _ _ _ _, rfl, below_a HB1.out _, HX1.out⟩
  case round =>
    obtain ⟨j, xs, x, rfl, hj, hj5, rfl, rfl, hown, hrw, hb, hbx⟩ := hrel
    have HO := Lib.hid hown
    have HR := Lib.hid hrw
    have HB := Lib.hid hb
    have HX := Lib.hid hbx
    have hz := hbx.lt
    clear hown hrw hb hbx HX1
    obtain ⟨S, hS⟩ : ∃ S, S = wA ⟨#[91]⟩ false (fewF (k.take j)) := ⟨_, rfl⟩
    obtain ⟨Z, hZ⟩ : ∃ Z, Z = okA (fewF (k.take j)) := ⟨_, rfl⟩
    rw [← hS, ← hZ]
    have HS := Lib.hid hS
    have HZ := Lib.hid hZ
    have hSs : S.size ≤ 5000000 := by
      have h1 := wA_size 810000 docB_le (fewF (k.take j)) ⟨#[91]⟩ false
      rw [← hS, fewF_len, take_len _ _ hj] at h1
      have h2 : (ByteArray.mk #[91]).size = 1 := rfl
      omega
    clear hS hZ
    by_cases hgo : j < k.len ∧ j < 5
    · obtain ⟨g1, g2⟩ := hgo
      obtain ⟨B, o, rfl, hB, _, hLi⟩ := HL.out (by omega)
      obtain ⟨h', k', r, hd⟩ := drop_cons g1
      have hLj := lies_drop j hLi
      rw [hd] at hLj
      obtain ⟨⟨v', hc', hk'⟩, hu', _⟩ := lies_cons.1 hLj
      have HK' := Lib.hid hk'
      have HDr := Lib.hid hd
      have HU' := Lib.hid hu'
      obtain ⟨d0, d1, d2, d3, d4, d5, d6, d7, d8⟩ := (hc'.below HB.out).nine
      clear hLi hLj hc' hk' hd hu'
      go_wp2_with fail
      refine (Few_calls k' h' v' _ (HK'.out.below HB.out) HU'.out).mono ?_
      rintro o1 w2 ⟨v2, rfl, hk2, hb2⟩
      obtain ⟨h2, hh2⟩ : ∃ h2, h2 = cutH h' := ⟨_, rfl⟩
      obtain ⟨K, hKK⟩ : ∃ K, K = fewK k' := ⟨_, rfl⟩
      have HD : Hid (K.deep < 1000 ∧ h2.u < 18446744073709551616 ∧ AllG Gl (.cons h2 K .nil)) := Lib.hid (by rw [hKK, hh2]; exact ⟨Nat.lt_of_le_of_lt (few_deep k') (by decide), HU'.out, few_all _ k'⟩)
      rw [← hh2]
      rw [← hKK] at hk2
      have HE := Lib.hid (And.intro hh2 hKK)
      have HK2 := Lib.hid hk2
      have HB2 := Lib.hid hb2
      obtain ⟨A2, c2, rfl, _, _, _⟩ := hk2.form
      clear hk2 hb2 hh2 hKK d0 d1 d2 d3 d4 d5 d6 d7 d8
      have HN := Lib.hid (Nx.new w2 h2 (.slice A2 K.len c2))
      obtain ⟨D, hD⟩ : ∃ D, D = docB layP h2 K := ⟨_, rfl⟩
      obtain ⟨e, he⟩ : ∃ e, e = chk 1 h2 K := ⟨_, rfl⟩
      have HW : Hid (Calls Tryz.prog 9 #[.agg (h2.cells (.slice A2 K.len c2))] (w2.alloc (.cells (h2.cells (.slice A2 K.len c2)) 27)) fun o w' => o = .returned (.tuple #[.string D, .int .i64 e]) ∧ Below (w2.heap.size + 1) (w2.alloc (.cells (h2.cells (.slice A2 K.len c2)) 27)) w') := Lib.hid (by
        have := Write_calls h2 K (.slice A2 K.len c2) (w2.alloc (.cells (h2.cells (.slice A2 K.len c2)) 27)) (HT.out.below (below_a (below_nx HB.out HB2.out) _)) (HK2.out.below (below_a (Below.refl _ _) _) |>.mono fun _ _ _ => trivial) HD.out.2.1 HD.out.1 HD.out.2.2
        unfold DocP at this
        rw [World.size_alloc] at this
        rwa [← hD, ← he] at this)
      have HDe := Lib.hid (And.intro hD he)
      have hDs : D.size ≤ 810000 := by rw [hD]; exact docB_le _ _
      simp only [Hd.cells] at HW ⊢
      clear hD he
      obtain ⟨q0, q1, q2, q3, q4, q5, q6, q7, q8⟩ := HN.out.nine
      go_wp2_with fail
      refine HW.out.mono ?_
      rintro o3 w3 ⟨rfl, hb3⟩
      have HB3 : Hid (Below wr.heap.size wr w3) := Lib.hid ((below_a HB2.out _).trans (hb3.mono (by have := HB2.out.size; omega)))
      have HX3 := Lib.hid (HX.out.below HB3.out)
      have HN3 : Hid (Nx w3 w2.heap.size h2 (.slice A2 K.len c2)) := Lib.hid (HN.out.below (by rw [World.size_alloc]; exact hb3))
      have HK3 : Hid (Kd (fun b => wr.heap.size ≤ b) w3 (.slice A2 K.len c2) K) := Lib.hid ((HK2.out.below (below_a (Below.refl _ _) _)).below (by rw [World.size_alloc]; exact hb3))
      clear hb3 q0 q1 q2 q3 q4 q5 q6 q7 q8
      obtain ⟨q0, q1, q2, q3, q4, q5, q6, q7, q8⟩ := HN3.out.nine
      have c8 := HX3.out.c8
      have HT1 : Hid (fewF (k.take (j + 1)) = (fewF (k.take j)).app (.cons h2 K .nil)) := Lib.hid (by rw [take_app j _ HDr.out, fewF_app, ← HE.out.1, ← HE.out.2])
      have HSt : Hid ((j = 0 → wA ⟨#[91]⟩ false (fewF (k.take (j + 1))) = S ++ D) ∧ (0 < j → wA ⟨#[91]⟩ false (fewF (k.take (j + 1))) = S ++ ⟨#[44]⟩ ++ D)) := Lib.hid (by
        rw [HT1.out, wA_app, ← HS.out, ← HDe.out.1, isNil_len, fewF_len, take_len _ _ (by omega)]
        exact ⟨fun h => by rw [if_neg (by simp [h])], fun h => by rw [if_pos (by simp; omega)]⟩)
      have HOk : Hid (okA (fewF (k.take (j + 1))) = (Z && decide (e = 0))) := Lib.hid (by rw [HT1.out, okA_app, ← HZ.out, ← HDe.out.2])
      have hZe : Z = false ∨ (Z = true ∧ e = 0) ∨ (Z = true ∧ (e == 0) = false) := by
        cases Z
        · exact .inl rfl
        · by_cases he : e = 0
          · exact .inr (.inl ⟨rfl, he⟩)
          · exact .inr (.inr ⟨rfl, by simpa using he⟩)
      rcases hZe with rfl | ⟨rfl, rfl⟩ | ⟨rfl, he⟩
      all_goals go_wp2_with (
        at_builtin
        refine wpList_append_lies _ rfl (.tmp 41) (.tmp 43) 25 rfl (w1.heap.size + 1) 27 i0 _ 9 104 Tryz.underlying25 I0.out I1.out I2.out I3.out rfl (by decide) x j xs rfl ((owns_below HO.out HB3.out).alloc _) ⟨w3.heap.size, 0, none⟩ 1 1 ((h2.cells (.slice A2 K.len c2)).toList) rfl rfl (news_blk (h2.cells (.slice A2 K.len c2)) (heap_alloc_new w3 _)) (by intro u hu; simp [Hd.cells] at hu; rcases hu with rfl | rfl | rfl | rfl | rfl | rfl | rfl | rfl | rfl <;> rfl) (by decide) (by unfold maxLen; omega) (by omega) (by have := HB3.out.size; simp; omega) _ rfl ?_
        intro g cp w4 hown4 hg4 hl4 hlt4
        have HX4 : Hid (Nx w4 w1.heap.size hL x) := Lib.hid (by
          have q := HX3.out.alloc (.cells (h2.cells (.slice A2 K.len c2)) 27)
          exact (hg4.block _ q.lt (fun e => by have := owns_block HO.out e.symm; omega)).trans q)
        have HF : Hid ((w4.setCell ⟨w1.heap.size, 8, none⟩ (.slice (some ⟨g, 0, none⟩) (j + 1) cp)).ownsRow (w1.heap.size + 1) 27 9 (.slice (some ⟨g, 0, none⟩) (j + 1) cp) (j + 1) (xs ++ (h2.cells (.slice A2 K.len c2)).toList) ∧ Rw (fun b => w1.heap.size + 1 ≤ b ∧ (Value.slice (some ⟨g, 0, none⟩) (j + 1) cp).ownBlock ≠ some b) (w4.setCell ⟨w1.heap.size, 8, none⟩ (.slice (some ⟨g, 0, none⟩) (j + 1) cp)) (fewF (k.take (j + 1))) (xs ++ (h2.cells (.slice A2 K.len c2)).toList) ∧ Below w.heap.size w (w4.setCell ⟨w1.heap.size, 8, none⟩ (.slice (some ⟨g, 0, none⟩) (j + 1) cp)) ∧ Nx (w4.setCell ⟨w1.heap.size, 8, none⟩ (.slice (some ⟨g, 0, none⟩) (j + 1) cp)) w1.heap.size hL (.slice (some ⟨g, 0, none⟩) (j + 1) cp)) := Lib.hid (by
          refine ⟨ownsRow_setCell_below hown4 (Nat.lt_succ_self _) _, ?_, ?_, Bx.set HX4.out 8 _⟩
          · rw [HT1.out]
            exact Rw.kept (by rw [World.size_setCell]; exact Nat.le_refl _) (fun b h1 _ => heap_setCell_other _ ⟨w1.heap.size, 8, none⟩ b _ (by have := h1.1; show b ≠ w1.heap.size; omega)) (rw_step HB3.out HR.out HO.out HK3.out hg4 hl4 (by omega) HD.out.2.1)
          · refine Below.setCell ?_ (show w.heap.size ≤ w1.heap.size from HB1.out.size) _
            exact (below_a (below_nx HB.out HB3.out) _).grown hg4 (by rw [World.size_alloc]; have := HB3.out.size; have := HB1.out.size; omega) (fun r e => by have := (owns_block HO.out e).1; have := HB1.out.size; omega))
        have f8 := Bx.f HX4.out 8
        have c8' := HX4.out.c8
        clear hown4 hg4 hl4 hlt4)
      all_goals go_roundw
      all_goals first
        | (case measure => simp [intOf]; omega)
        | (case rel =>
          refine ⟨j + 1, _, _, by go_num, g1, by omega, ?_, ?_, HF.out⟩
          · first
              | (rw [HSt.out.1 (by omega)])
              | (rw [HSt.out.2 (by omega)])
          · rw [HOk.out]
            first
              | rfl
              | (congr 1; simp_all))
    · obtain ⟨A5, c5, rfl⟩ : ∃ A5 c5, x = .slice A5 j c5 := by
        obtain ⟨_, ⟨h, h'⟩ | ⟨g, cap, cur, h, _⟩⟩ := HO.out
        · exact ⟨none, 0, by rw [h, h']⟩
        · exact ⟨_, _, h⟩
      obtain ⟨G, hG⟩ : ∃ G, G = fewF (k.take j) := ⟨_, rfl⟩
      have HGf : Hid (G.deep ≤ 18 ∧ G.len = j ∧ AllG Gl (.cons hL G .nil)) := Lib.hid (by
        have h1 : G.len = j := by rw [hG, fewF_len, take_len _ _ hj]
        exact ⟨by rw [hG]; exact fewF_deep _, h1, allG_cons (gl_of (by omega)) (by rw [hG]; exact fewF_all _) trivial⟩)
      have HKx : Hid (Kd An wr (.slice A5 j c5) G) := Lib.hid (by
        have hR := HR.out
        have hO := HO.out
        rw [← hG] at hR
        rw [← HGf.out.2.1] at hO
        have hK := kd_of_owns (P := fun b => w1.heap.size + 1 ≤ b) hO (hR.mono fun b h1 _ => h1.1) (fun b h1 _ => (owns_block hO h1).1) (by rw [HGf.out.2.1]; omega)
        rw [HGf.out.2.1] at hK
        exact hK.mono fun _ _ _ => trivial)
      rw [← hG] at HS HZ
      clear hG HR HO
      obtain ⟨D, hD⟩ : ∃ D, D = docB layP hL G := ⟨_, rfl⟩
      obtain ⟨e, he⟩ : ∃ e, e = chk 1 hL G := ⟨_, rfl⟩
      have HW : Hid (Calls Tryz.prog 9 #[.agg (hL.cells (.slice A5 j c5))] wr fun o w' => o = .returned (.tuple #[.string D, .int .i64 e]) ∧ Below wr.heap.size wr w') := Lib.hid (by
        have := Write_calls hL G _ wr (HT.out.below HB.out) HKx.out (by decide) (by have := HGf.out.1; omega) HGf.out.2.2
        unfold DocP at this
        rwa [← hD, ← he] at this)
      have HC : Hid (Z = false → e ≠ 0) := Lib.hid (fun h => by rw [he]; exact list_none (by rw [← HZ.out]; exact h))
      have HC2 : Hid (Z = true → (e = 0 ∧ (D.toList == (S ++ ⟨#[93]⟩).toList) = true) ∨ (e = 60 ∧ (300 < 1 + G.cnt ∨ 16 < G.deep + 1))) := Lib.hid (fun h => by
        have h1 : okA G = true := by rw [← HZ.out]; exact h
        rcases list_chk h1 with h2 | h2
        · exact .inl ⟨he.trans h2, by rw [hD, HS.out, list_doc h2 h1]; exact beq_self_eq_true _⟩
        · exact .inr ⟨he.trans h2.1, h2.2⟩)
      have HCn : Hid (Z = true → G.cnt ≤ 1500) := Lib.hid (fun h => by
        have h1 := (of_okA G (by rw [← HZ.out]; exact h)).2.2
        have h2 := HGf.out.2.1
        rw [h2] at h1
        omega)
      have HCt : Hid (∀ W, Below wr.heap.size wr W → Calls Tryz.prog 15 #[.agg (hL.cells (.slice A5 j c5))] W fun o w' => o = .returned (.int .i64 (wrap64 (1 + (G.cnt : Int)))) ∧ Below W.heap.size W w') := Lib.hid (fun W hW => rCount_calls G hL _ W (HKx.out.below hW))
      have HDp : Hid (∀ W, Below wr.heap.size wr W → Calls Tryz.prog 16 #[.agg (hL.cells (.slice A5 j c5))] W fun o w' => o = .returned (.int .i64 ((G.deep + 1 : Nat) : Int)) ∧ Below W.heap.size W w') := Lib.hid (fun W hW => rDepth_calls G hL _ W (by have := HGf.out.1; omega) (HKx.out.below hW))
      simp only [Hd.cells] at HW HCt HDp
      clear hD he HKx
      obtain ⟨q0, q1, q2, q3, q4, q5, q6, q7, q8⟩ := HX.out.nine
      have hend : (¬ (j : Int) < (k.len : Int)) ∨ ((j : Int) < (k.len : Int) ∧ ¬ (j : Int) < 5) := by omega
      rcases hend with h1 | ⟨h1, h2⟩
      all_goals go_wp2_with fail
      all_goals refine HW.out.mono ?_
      all_goals rintro o3 w3 ⟨rfl, hb3⟩
      all_goals have HB3 := Lib.hid hb3
      all_goals clear hb3 q0 q1 q2 q3 q4 q5 q6 q7 q8
      all_goals obtain ⟨q0, q1, q2, q3, q4, q5, q6, q7, q8⟩ := (HX.out.below HB3.out).nine
      all_goals cases Z with
        | false =>
          have he : (e != 0) = true := by have := HC.out rfl; simpa using this
          go_wp2_with fail
          go_ret
          exact ⟨rfl, below_nx HB.out HB3.out⟩
        | true =>
          rcases HC2.out rfl with ⟨rfl, hs⟩ | ⟨rfl, hs⟩
          · have HSs := Lib.hid hs
            clear hs
            go_wp2_with fail
            go_ret
            exact ⟨congrArg (fun b => Ending.returned (Value.bool b)) HSs.out, below_nx HB.out HB3.out⟩
          · have hcn := HCn.out rfl
            have hcw : wrap64 (1 + (G.cnt : Int)) = ((1 + G.cnt : Nat) : Int) := by unfold wrap64; omega
            rw [hcw] at HCt
            have HH := Lib.hid hs
            by_cases hc : 300 < 1 + G.cnt
            · have hc2 : (300 : Int) < 1 + (G.cnt : Int) := by omega
              clear hs hcw
              go_wp2_with fail
              refine (HCt.out _ HB3.out).mono ?_
              rintro o4 w4 ⟨rfl, hb4⟩
              have HB4 := Lib.hid (below_nx HB3.out hb4)
              clear hb4
              go_wp2_with fail
              go_ret
              exact ⟨rfl, below_nx HB.out HB4.out⟩
            · have hc2 : ¬ (300 : Int) < 1 + (G.cnt : Int) := by omega
              have hc3 : (16 : Int) < (G.deep : Int) + 1 := by omega
              have hc4 : (decide ((300 : Int) < 1 + (G.cnt : Int)) || decide ((16 : Int) < (G.deep : Int) + 1)) = true := by simp [hc2, hc3]
              clear hs hcw
              go_wp2_with fail
              refine (HCt.out _ HB3.out).mono ?_
              rintro o4 w4 ⟨rfl, hb4⟩
              have HB4 := Lib.hid (below_nx HB3.out hb4)
              clear hb4 q0 q1 q2 q3 q4 q5 q6 q7 q8
              obtain ⟨q0, q1, q2, q3, q4, q5, q6, q7, q8⟩ := (HX.out.below HB4.out).nine
              go_wp2_with fail
              refine (HDp.out _ HB4.out).mono ?_
              rintro o5 w5 ⟨rfl, hb5⟩
              have HB5 := Lib.hid (below_nx HB4.out hb5)
              clear hb5
              go_wp2_with fail
              go_ret
              first
                | exact ⟨rfl, below_nx HB.out HB5.out⟩
                | exact ⟨congrArg (fun b => Ending.returned (Value.bool b)) hc4, below_nx HB.out HB5.out⟩
end Go.Proofs.YtallgamfjbkdgaaGreatDoor
