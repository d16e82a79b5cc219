/- The document's own: Same. Trees that are cut twice; what is the same. The document's own: Depth, only. -/
import Derived.Test.YtomociaidccfmaaGreatDoorMn
import Derived.WideShapes
import Derived.Test.YtomociaidccfmaaGreatDoorMr

namespace Go.Proofs.YtomociaidccfmaaGreatDoor
open Go.RowKit

theorem sameH_eq {h h2 : Hd} (e : sameH h h2 = true) : h = h2 := by
  simp only [sameH, Bool.and_eq_true, decide_eq_true_eq, beq_iff_eq, Lib.toList_data] at e
  obtain ⟨⟨⟨⟨⟨e1, e2⟩, ⟨e3, e4⟩, e5⟩, e6⟩, e7⟩, e8⟩ := e
  cases h
  cases h2
  simp only at e1 e2 e3 e4 e5 e6 e7 e8
  rw [e1, e2, e3, Go.WideShapes.bytes_inj e4, e5, Int.ofNat.inj e6, e7, Go.WideShapes.bytes_inj e8]
set_option maxRecDepth 100000 in
set_option maxHeartbeats 2000000 in
theorem rSame_any (n : Nat) : ∀ (k k2 : Fo) (h h2 : Hd) (v v2 : Value) (w : World), k.cnt < n → Kd An w v k → Kd An w v2 k2 →
    Calls Tryz.prog 90 #[.agg (h.cells v), .agg (h2.cells v2)] w (BolP (sameH h h2 && sameF k k2) w) := by
  induction n with
  | zero => intro k k2 h h2 v v2 w hn; omega
  | succ n ih =>
    intro k k2 h h2 v v2 w hn hk hk2
    obtain ⟨A, c, rfl, hc, hl, hL⟩ := hk.form
    obtain ⟨A2, c2, rfl, hc2, hl2, hL2⟩ := hk2.form
    have IH := Lib.hid ih
    have HL := Lib.hid hL
    have HL2 := Lib.hid hL2
    have HN := Lib.hid hn
    clear ih hL hL2 hk hk2 hn hc hc2
    by_cases hR : (sameH h h2 && ((k.len : Int) == (k2.len : Int))) = true
    · have hR' := hR
      rw [Bool.and_eq_true] at hR'
      obtain ⟨hs, hlb⟩ := hR'
      have hleq : k.len = k2.len := by have := beq_iff_eq.1 hlb; omega
      have HR : Hid (true = (sameH h h2 && ((k.len : Int) == (k2.len : Int)))) := Lib.hid hR.symm
      obtain rfl := sameH_eq hs
      rw [show (Value.slice A2 k2.len c2) = Value.slice A2 k.len c2 by rw [hleq]]
      clear hR hs hlb hleq hl2
      obtain ⟨R2, hR2⟩ : ∃ R2, R2 = (sameH h h && sameF k k2) := ⟨_, rfl⟩
      rw [← hR2]
      have HR2 := Lib.hid hR2
      clear hR2
      simp only [Hd.cells]
      go_enter Tryz.func90, Tryz.ntmps90
      have HX1 := Lib.hid (show Nx _ w.heap.size h (.slice A k.len c) from ((Nx.new w h (.slice A k.len c)).alloc (.cells (h.cells (.slice A2 k.len c2)) 27)))
      have HX2 := Lib.hid (show Nx ((w.alloc (.cells (h.cells (.slice A k.len c)) 27)).alloc (.cells (h.cells (.slice A2 k.len c2)) 27)) (w.heap.size + 1) h (.slice A2 k.len c2) from Bx.new1 w _ _ _)
      have HB1 := Lib.hid (show Below w.heap.size w ((w.alloc (.cells (h.cells (.slice A k.len c)) 27)).alloc (.cells (h.cells (.slice A2 k.len c2)) 27)) from below_a (below_a (Below.refl _ _) _) _)
      have c8q := HX1.out.c8
      go_wp2_with fail
      go_loopw [5] (fun i wr => ∃ j : Nat, i = .int .i64 j ∧ j ≤ k.len ∧ sameF k k2 = sameF (k.drop j) (k2.drop j) ∧ Below w.heap.size w wr ∧ Nx wr w.heap.size h (.slice A k.len c) ∧ Nx wr (w.heap.size + 1) h (.slice A2 k.len c2)) (fun i _ => k.len - (intOf i).toNat)
      case atStart => exact ⟨0, rfl, Nat.zero_le _, rfl, HB1.out, HX1.out, HX2.out⟩
      case round =>
        obtain ⟨j, rfl, hj, hsd, hb, hx1, hx2⟩ := hrel
        have HB := Lib.hid hb
        have HX := Lib.hid hx1
        have HY := Lib.hid hx2
        have HSD := Lib.hid hsd
        have c8 := hx1.c8
        clear hb hx1 hx2 hsd HX1 HX2 HB1
        by_cases hgo : j < k.len
        · have hlen : k.len = k2.len := by
            have e := HR.out
            cases hs : sameH h h with
            | false => rw [hs] at e; cases e
            | true => rw [hs, Bool.true_and] at e; have := beq_iff_eq.1 e.symm; omega
          have hgo2 : j < k2.len := by omega
          obtain ⟨B, o, rfl, hB, _, hLi⟩ := HL.out (by omega)
          obtain ⟨B2, o2, rfl, hB2, _, hLi2⟩ := HL2.out (by omega)
          obtain ⟨h', k', r, hd⟩ := drop_cons hgo
          obtain ⟨h'', k'', r2, hd2⟩ := drop_cons hgo2
          have hLj := lies_drop j hLi
          have hLj2 := lies_drop j hLi2
          rw [hd] at hLj
          rw [hd2] at hLj2
          obtain ⟨⟨v', hc', hk'⟩, hu', _⟩ := lies_cons.1 hLj
          obtain ⟨⟨v'', hc'', hk''⟩, hu'', _⟩ := lies_cons.1 hLj2
          have HK' := Lib.hid hk'
          have HK'' := Lib.hid hk''
          have HD := Lib.hid hd
          have HD2 := Lib.hid hd2
          have HC' := Lib.hid (show Cells wr.drew B (o + j * 9) (h'.cells v') from hc'.below HB.out.drew)
          have HC'' := Lib.hid (show Cells wr.drew B2 (o2 + j * 9) (h''.cells v'') from hc''.below HB.out.drew)
          have HXd := Lib.hid (show Nx wr.drew w.heap.size h (.slice (some ⟨B, o, none⟩) k.len c) from HX.out)
          have HYd := Lib.hid (show Nx wr.drew (w.heap.size + 1) h (.slice (some ⟨B2, o2, none⟩) k.len c2) from HY.out)
          have HBd := Lib.hid HB.out.drew
          clear hLi hLj hc' hk' hd hLi2 hLj2 hc'' hk'' hd2 hu' hu''
          have i1 : (j : Int) < (k.len : Int) := by omega
          clear hlen hgo2
          obtain ⟨Q, hQ⟩ : ∃ Q, Q = (sameH h' h'' && sameF k' k'') := ⟨_, rfl⟩
          have HQ := Lib.hid hQ
          have HI : Hid (∀ W, Below w.heap.size w W → Calls Tryz.prog 90 #[.agg (h'.cells v'), .agg (h''.cells v'')] W (BolP Q W)) := Lib.hid (fun W hW => by
            rw [hQ]
            exact IH.out k' k'' h' h'' v' v'' W (by have := drop_cnt j k; rw [HD.out, Fo.cnt] at this; have := HN.out; omega) (HK'.out.below hW) (HK''.out.below hW))
          clear hQ
          go_wp2_with fail
          go_region_held3 (fun w' => (w'.cell? ⟨B, o + j * 9, none⟩ = some (.int .i64 h'.kind) ∧ w'.cell? ⟨B, o + j * 9 + 1, none⟩ = some (.bool h'.b) ∧ w'.cell? ⟨B, o + j * 9 + 2, none⟩ = some (.bool h'.neg) ∧ w'.cell? ⟨B, o + j * 9 + 3, none⟩ = some (.string h'.dig) ∧ w'.cell? ⟨B, o + j * 9 + 4, none⟩ = some (.int .i64 h'.exp) ∧ w'.cell? ⟨B, o + j * 9 + 5, none⟩ = some (.int .u64 (h'.u : Int)) ∧ w'.cell? ⟨B, o + j * 9 + 6, none⟩ = some (.int .i64 h'.w) ∧ w'.cell? ⟨B, o + j * 9 + 7, none⟩ = some (.string h'.s) ∧ w'.cell? ⟨B, o + j * 9 + 8, none⟩ = some (v')) ∧ (w'.cell? ⟨B2, o2 + j * 9, none⟩ = some (.int .i64 h''.kind) ∧ w'.cell? ⟨B2, o2 + j * 9 + 1, none⟩ = some (.bool h''.b) ∧ w'.cell? ⟨B2, o2 + j * 9 + 2, none⟩ = some (.bool h''.neg) ∧ w'.cell? ⟨B2, o2 + j * 9 + 3, none⟩ = some (.string h''.dig) ∧ w'.cell? ⟨B2, o2 + j * 9 + 4, none⟩ = some (.int .i64 h''.exp) ∧ w'.cell? ⟨B2, o2 + j * 9 + 5, none⟩ = some (.int .u64 (h''.u : Int)) ∧ w'.cell? ⟨B2, o2 + j * 9 + 6, none⟩ = some (.int .i64 h''.w) ∧ w'.cell? ⟨B2, o2 + j * 9 + 7, none⟩ = some (.string h''.s) ∧ w'.cell? ⟨B2, o2 + j * 9 + 8, none⟩ = some (v'')) ∧ w'.cell? ⟨w.heap.size, 8, none⟩ = some (.slice (some ⟨B, o, none⟩) k.len c) ∧ w'.cell? ⟨w.heap.size + 1, 8, none⟩ = some (.slice (some ⟨B2, o2, none⟩) k.len c2))
            (first | exact ⟨HC'.out.nine, HC''.out.nine, HXd.out.c8, HYd.out.c8⟩ | exact ⟨(HC'.out.below hb2).nine, (HC''.out.below hb2).nine, (HXd.out.below hb2).c8, (HYd.out.below hb2).c8⟩)
            (first | (go_at_call 90; refine (HI.out _ HBd.out).mono ?_; rintro o w2 ⟨rfl, hb2⟩))
          have HB2 := Lib.hid (below_nx HBd.out hb2)
          have HX3 := Lib.hid (HXd.out.below hb2)
          have HY3 := Lib.hid (HYd.out.below hb2)
          have HE : Hid (sameF k k2 = (sameH h' h'' && sameF k' k'' && sameF r r2)) := Lib.hid (by rw [HSD.out, HD.out, HD2.out]; rfl)
          clear hb2
          cases Q with
          | true =>
            go_wp2_with fail
            go_roundw
            case rel => exact ⟨j + 1, by go_num, hgo, by rw [HE.out, ← HQ.out, Bool.true_and, drop_succ j k HD.out, drop_succ j k2 HD2.out], HB2.out, HX3.out, HY3.out⟩
            case measure => simp [intOf]; omega
          | false =>
            go_wp2_with fail
            go_ret
            refine ⟨?_, HB2.out⟩
            rw [HR2.out, HE.out, ← HQ.out, Bool.false_and, Bool.and_false]
            rfl
        · go_wp2_with fail
          go_ret
          refine ⟨?_, HB.out⟩
          have e := HR.out
          cases hs : sameH h h with
          | false => rw [hs] at e; cases e
          | true =>
            rw [hs, Bool.true_and] at e
            have hl := beq_iff_eq.1 e.symm
            rw [HR2.out, hs, HSD.out, show k.drop j = .nil by rw [show j = k.len by omega, drop_end], show k2.drop j = .nil by rw [show j = k2.len by omega, drop_end]]
            rfl
    · obtain ⟨R2, hR2⟩ : ∃ R2, R2 = (sameH h h2 && sameF k k2) := ⟨_, rfl⟩
      rw [← hR2]
      have HF : Hid (R2 = false) := Lib.hid (by
        rw [hR2]
        cases hs : sameH h h2 with
        | false => rfl
        | true =>
          rw [hs, Bool.true_and] at hR
          rw [sameF_len k k2 (fun e2 => hR (by rw [e2]; exact beq_self_eq_true _))]
          rfl)
      rw [HF.out]
      have HR := Lib.hid hR
      clear hR2 hR HF
      simp only [Hd.cells]
      go_enter Tryz.func90, Tryz.ntmps90
      go_wp2
      all_goals first
        | (go_ret; exact ⟨rfl, below_a (below_a (Below.refl _ _) _) _⟩)
        | (exfalso; have hq := HR.out; simp_all [sameH]; done)
theorem rSame_calls (k k2 : Fo) (h h2 : Hd) (v v2 : Value) (w : World) (hk : Kd An w v k) (hk2 : Kd An w v2 k2) :
    Calls Tryz.prog 90 #[.agg (h.cells v), .agg (h2.cells v2)] w (BolP (sameH h h2 && sameF k k2) w) := rSame_any (k.cnt + 1) k k2 h h2 v v2 w (by omega) hk hk2
end Go.Proofs.YtomociaidccfmaaGreatDoor

namespace Go.Proofs.YtomociaidccfmaaGreatDoor
open Go.RowKit

theorem cutB_twice (s : ByteArray) (m : Nat) : cutB (cutB s m) m = cutB s m := by
  unfold cutB
  apply ByteArray.ext
  simp only [ByteArray.data_extract, ByteArray.size_extract]
  rw [Array.extract_extract]
  congr 1
  omega
def Gc : Hd → Fo → Prop := fun h k => cutH h = h ∧ k.len ≤ 40
theorem cutH_twice (h : Hd) : cutH (cutH h) = cutH h := by
  simp only [cutH, cutB_twice]
theorem cutF_gc : ∀ (f : Fo) (D m : Nat), AllG Gc (cutF f D m)
  | .nil, _, _ => trivial
  | .cons h k r, D, m => by
    rw [cutF]
    split
    · trivial
    · refine allG_cons ⟨cutH_twice h, ?_⟩ ?_ (cutF_gc r D (m - 1))
      · split
        · exact Nat.zero_le _
        · rw [cut_len]; omega
      · split
        · trivial
        · exact cutF_gc k (D - 1) 40
theorem deep_pos {k : Fo} (h : k.deep = 0) : k = .nil := by
  cases k with
  | nil => rfl
  | cons _ _ _ => simp only [Fo.deep] at h; omega
theorem cutF_id : ∀ (f : Fo) (D m : Nat), AllG Gc f → f.len ≤ m → f.deep ≤ D → cutF f D m = f
  | .nil, _, _, _, _, _ => rfl
  | .cons h k r, D, m, ⟨⟨g1, g2⟩, g3, g4⟩, hl, hd => by
    simp only [Fo.deep] at hd
    simp only [Fo.len] at hl
    rw [cutF, if_neg (by omega), g1, cutF_id r D (m - 1) g4 (by omega) (by omega)]
    congr 1
    split
    · rw [deep_pos (k := k) (by omega)]
    · exact cutF_id k (D - 1) 40 g3 g2 (by omega)
theorem few_few (k : Fo) : fewK (fewK k) = fewK k := by
  have h0 : fewK .nil = .nil := by rw [fewK]; split <;> rfl
  by_cases h : 400 < wrap64 (1 + ((cutK 18 k).cnt : Int))
  · rw [show fewK k = .nil by rw [fewK, if_pos h], h0]
  · have e : fewK k = cutK 18 k := by rw [fewK, if_neg h]
    have e2 : cutK 18 (cutK 18 k) = cutK 18 k := by
      have q : cutK 18 k = cutF k 17 40 := rfl
      rw [q]
      have hd := cut_deep k 17 40
      exact cutF_id _ 17 40 (cutF_gc k 17 40) (by rw [cut_len]; omega) (by omega)
    rw [e, fewK, e2, if_neg h]
theorem few_same_h (h : Hd) : sameH h h = true := by simp [sameH]
theorem same_refl : ∀ (f : Fo), sameF f f = true
  | .nil => rfl
  | .cons h k r => by rw [sameF, few_same_h, same_refl k, same_refl r]; rfl
theorem sameH_symm (a b : Hd) : sameH a b = sameH b a := by
  simp only [sameH]
  rw [show (a.kind == b.kind) = (b.kind == a.kind) from Bool.beq_comm .., show (a.b == b.b) = (b.b == a.b) from Bool.beq_comm .., show (a.neg == b.neg) = (b.neg == a.neg) from Bool.beq_comm .., show (a.exp == b.exp) = (b.exp == a.exp) from Bool.beq_comm .., show (a.w == b.w) = (b.w == a.w) from Bool.beq_comm ..,
    decide_eq_decide.2 (show a.dig.toList = b.dig.toList ↔ b.dig.toList = a.dig.toList from eq_comm), decide_eq_decide.2 (show (a.u : Int) = (b.u : Int) ↔ (b.u : Int) = (a.u : Int) from eq_comm), decide_eq_decide.2 (show a.s.toList = b.s.toList ↔ b.s.toList = a.s.toList from eq_comm)]
theorem sameF_symm : ∀ (a b : Fo), sameF a b = sameF b a
  | .nil, .nil => rfl
  | .nil, .cons _ _ _ => rfl
  | .cons _ _ _, .nil => rfl
  | .cons h k r, .cons h2 k2 r2 => by rw [sameF, sameF, sameH_symm h h2, sameF_symm k k2, sameF_symm r r2]
end Go.Proofs.YtomociaidccfmaaGreatDoor

namespace Go.Proofs.YtomociaidccfmaaGreatDoor
open Go.RowKit

set_option maxRecDepth 100000 in
set_option maxHeartbeats 1000000 in
theorem rDepth_any (n : Nat) : ∀ (k : Fo) (h : Hd) (v : Value) (w : World), k.cnt < n → k.deep < 1000 → Kd An w v k →
    Calls Tryz.prog 34 #[.agg (h.cells v)] w fun o w' => o = .returned (.int .i64 ((k.deep + 1 : Nat) : Int)) ∧ Below w.heap.size w w' := by
  induction n with
  | zero => intro k h v w hn; omega
  | succ n ih =>
    intro k h v w hn hdp hk
    obtain ⟨A, c, rfl, hc, hl, hL⟩ := hk.form
    have IH := Lib.hid ih
    have HL := Lib.hid hL
    have HN := Lib.hid hn
    have HDp := Lib.hid hdp
    clear ih hL hk hn hdp
    simp only [Hd.cells]
    go_enter Tryz.func34, Tryz.ntmps34
    go_wp2_with fail
    have HB0 := Lib.hid (Nx.new w h (.slice A k.len c))
    go_loopw [3, 4] (fun x i wr => ∃ j : Nat, i = .int .i64 j ∧ j ≤ k.len ∧ x = .int .i64 ((k.take j).deep : Int) ∧ Below w.heap.size w wr ∧ Nx wr w.heap.size h (.slice A k.len c)) (fun _ i _ => k.len - (intOf i).toNat)
    case atStart => exact ⟨0, rfl, Nat.zero_le _, rfl, below_a (Below.refl _ _) _, HB0.out⟩
    case round =>
      obtain ⟨j, rfl, hj, rfl, hb, hbx⟩ := hrel
      have HB := Lib.hid hb
      have HX := Lib.hid hbx
      have c8 := hbx.c8
      clear hb hbx HB0
      by_cases hgo : j < k.len
      · obtain ⟨B, o, rfl, hB, _, hLi⟩ := HL.out (by omega)
        obtain ⟨h', k', r, hd⟩ := drop_cons hgo
        have hLj := lies_drop j hLi
        rw [hd] at hLj
        obtain ⟨⟨v', hc', hk'⟩, hu', _⟩ := lies_cons.1 hLj
        have HK' := Lib.hid hk'
        have HD := Lib.hid hd
        obtain ⟨d0, d1, d2, d3, d4, d5, d6, d7, d8⟩ := (hc'.below HB.out).nine
        have hkd : k'.deep < 1000 := by have := drop_deep j k hd; have := HDp.out; omega
        clear hLi hLj hc' hk' hd hu'
        go_wp2_with fail
        refine (IH.out k' h' v' _ (by have := drop_cnt j k; rw [HD.out, Fo.cnt] at this; have := HN.out; omega) hkd (HK'.out.below HB.out)).mono ?_
        rintro e w1 ⟨rfl, hb1⟩
        obtain ⟨M, hM⟩ : ∃ M : Nat, M = max (k.take j).deep (k'.deep + 1) := ⟨_, rfl⟩
        have hMM : max ((k.take j).deep : Int) ((k'.deep + 1 : Nat) : Int) = (M : Int) := by omega
        have hMM2 : max ((k.take j).deep : Int) ((k'.deep : Int) + 1) = (M : Int) := by omega
        have HM := Lib.hid hM
        clear hM
        go_wp2_with fail
        go_roundw
        case rel =>
          refine ⟨j + 1, by go_num, hgo, ?_, below_nx HB.out hb1, HX.out.below hb1⟩
          rw [take_app j k HD.out, deep_app, HM.out]
          simp [Fo.deep]
        case measure => simp [intOf]; omega
      · have HE : Hid ((k.take j).deep = k.deep) := Lib.hid (by
          obtain rfl : j = k.len := by omega
          rw [take_all])
        rw [HE.out]
        have hdl : (k.deep : Int) < 1000 := by have := HDp.out; omega
        go_wp2_with fail
        go_ret
        exact ⟨by simp, HB.out⟩
theorem rDepth_calls (k : Fo) (h : Hd) (v : Value) (w : World) (hd : k.deep < 1000) (hk : Kd An w v k) :
    Calls Tryz.prog 34 #[.agg (h.cells v)] w fun o w' => o = .returned (.int .i64 ((k.deep + 1 : Nat) : Int)) ∧ Below w.heap.size w w' := rDepth_any (k.cnt + 1) k h v w (by omega) hd hk
set_option maxRecDepth 100000 in
theorem rOnly_calls (h h2 : Hd) (k : Fo) (v : Value) (A2 : Option Addr) (n2 c2 : Nat) (w : World) (hk : Kd An w v k) :
    Calls Tryz.prog 89 #[.agg (h.cells v), .agg (h2.cells (.slice A2 n2 c2))] w (BolP (sameH h { h2 with kind := h.kind }) w) := by
  obtain ⟨A, c, rfl, _, _, _⟩ := hk.form
  have HK := Lib.hid hk
  clear hk
  obtain ⟨R, hR⟩ : ∃ R, R = sameH h { h2 with kind := h.kind } := ⟨_, rfl⟩
  rw [← hR]
  obtain ⟨W, hW⟩ : ∃ W, W = (w.alloc (.cells (h.cells (.slice A k.len c)) 27)).alloc (.cells (({ h2 with kind := h.kind } : Hd).cells (.slice A k.len c)) 27) := ⟨_, rfl⟩
  have HB : Hid (Below w.heap.size w W) := Lib.hid (by rw [hW]; exact below_a (below_a (Below.refl _ _) _) _)
  have HC : Hid (Calls Tryz.prog 90 #[.agg (h.cells (.slice A k.len c)), .agg (({ h2 with kind := h.kind } : Hd).cells (.slice A k.len c))] W (BolP R W)) := Lib.hid (by
    have := rSame_calls k k h { h2 with kind := h.kind } _ _ W (HK.out.below HB.out) (HK.out.below HB.out)
    rw [same_refl, Bool.and_true] at this
    rw [hR]
    exact this)
  clear hR
  simp only [Hd.cells] at HC hW ⊢
  go_enter Tryz.func89, Tryz.ntmps89
  go_wp2_with fail
  rw [← hW]
  refine HC.out.mono ?_
  rintro o w1 ⟨rfl, hb1⟩
  have HB1 := Lib.hid (below_nx HB.out hb1)
  clear hb1
  go_wp2_with fail
  go_ret
  exact ⟨rfl, HB1.out⟩
end Go.Proofs.YtomociaidccfmaaGreatDoor
