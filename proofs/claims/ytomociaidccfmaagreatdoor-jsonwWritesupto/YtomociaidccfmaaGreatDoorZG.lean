/- The document's own: own, all, Right. -/
import Derived.Test.YtomociaidccfmaaGreatDoorNg
import Derived.Test.YtomociaidccfmaaGreatDoorNd
namespace Go.Proofs.YtomociaidccfmaaGreatDoor
open Go.RowKit

def okK (h : Hd) (k : Fo) : Bool := decide (1 ≤ h.kind ∧ h.kind ≤ 11) && okN h k
theorem rOwn_calls (h : Hd) (k : Fo) (v : Value) (w : World) (hk : Kd An w v k) (hfl : k.len < 1353245080301) : Calls Tryz.prog 55 #[.agg (h.cells v)] w (BolP (okK h k) w) := by
  by_cases hn : 1 ≤ h.kind ∧ h.kind ≤ 11
  · rcases h with ⟨kind, b, neg, dig, exp, u, wd, s⟩
    have hc : kind = 1 ∨ kind = 2 ∨ kind = 3 ∨ kind = 4 ∨ kind = 5 ∨ kind = 6 ∨ kind = 7 ∨ kind = 8 ∨ kind = 9 ∨ kind = 10 ∨ kind = 11 := by
      have h1 : 1 ≤ kind := hn.1
      have h2 : kind ≤ 11 := hn.2
      omega
    clear hn
    rcases hc with rfl | rfl | rfl | rfl | rfl | rfl | rfl | rfl | rfl | rfl | rfl
    · have e : okK ⟨1, b, neg, dig, exp, u, wd, s⟩ k = o_isNull ⟨1, b, neg, dig, exp, u, wd, s⟩ k.len := by simp [okK, okN]
      rw [e]
      exact rOwn_1 b neg dig exp u wd s k v w hk
    · have e : okK ⟨2, b, neg, dig, exp, u, wd, s⟩ k = o_isBool ⟨2, b, neg, dig, exp, u, wd, s⟩ k.len := by simp [okK, okN]
      rw [e]
      exact rOwn_2 b neg dig exp u wd s k v w hk
    · have e : okK ⟨3, b, neg, dig, exp, u, wd, s⟩ k = o_isNum ⟨3, b, neg, dig, exp, u, wd, s⟩ k.len := by simp [okK, okN]
      rw [e]
      exact rOwn_3 b neg dig exp u wd s k v w hk
    · have e : okK ⟨4, b, neg, dig, exp, u, wd, s⟩ k = o_isFloat ⟨4, b, neg, dig, exp, u, wd, s⟩ k.len := by simp [okK, okN]
      rw [e]
      exact rOwn_4 b neg dig exp u wd s k v w hk
    · have e : okK ⟨5, b, neg, dig, exp, u, wd, s⟩ k = o_isText ⟨5, b, neg, dig, exp, u, wd, s⟩ k.len := by simp [okK, okN]
      rw [e]
      exact rOwn_5 b neg dig exp u wd s k v w hk (fun W _ => rUtf_calls s W)
    · have e : okK ⟨6, b, neg, dig, exp, u, wd, s⟩ k = o_isBytes ⟨6, b, neg, dig, exp, u, wd, s⟩ k.len := by simp [okK, okN]
      rw [e]
      exact rOwn_6 b neg dig exp u wd s k v w hk
    · have e : okK ⟨7, b, neg, dig, exp, u, wd, s⟩ k = o_isArray ⟨7, b, neg, dig, exp, u, wd, s⟩ k.len := by simp [okK, okN]
      rw [e]
      exact rOwn_7 b neg dig exp u wd s k v w hk
    · have e : okK ⟨8, b, neg, dig, exp, u, wd, s⟩ k = o_isMap ⟨8, b, neg, dig, exp, u, wd, s⟩ k := by simp [okK, okN]
      rw [e]
      exact rOwn_8 b neg dig exp u wd s k v w hk hfl
    · have e : okK ⟨9, b, neg, dig, exp, u, wd, s⟩ k = o_isTag ⟨9, b, neg, dig, exp, u, wd, s⟩ k.len := by simp [okK, okN]
      rw [e]
      exact rOwn_9 b neg dig exp u wd s k v w hk
    · have e : okK ⟨10, b, neg, dig, exp, u, wd, s⟩ k = o_isSimple ⟨10, b, neg, dig, exp, u, wd, s⟩ k.len := by simp [okK, okN]
      rw [e]
      exact rOwn_10 b neg dig exp u wd s k v w hk
    · have e : okK ⟨11, b, neg, dig, exp, u, wd, s⟩ k = o_isExt ⟨11, b, neg, dig, exp, u, wd, s⟩ k.len := by simp [okK, okN]
      rw [e]
      exact rOwn_11 b neg dig exp u wd s k v w hk
  · obtain ⟨A, c, rfl, _, _, _⟩ := hk.form
    rw [okK, decide_eq_false hn, Bool.false_and]
    exact rOwn_no h A k.len c w hn
set_option maxRecDepth 100000 in
set_option maxHeartbeats 1000000 in
theorem rAll_any (n : Nat) : ∀ (k : Fo) (h : Hd) (v : Value) (w : World), k.cnt < n → Kd An w v k → AllG Gl (.cons h k .nil) →
    Calls Tryz.prog 35 #[.agg (h.cells v)] w (BolP (okAll okN (.cons h k .nil)) w) := by
  induction n with
  | zero => intro k h v w hn; omega
  | succ n ih =>
    intro k h v w hn hk hG
    obtain ⟨A, c, rfl, hc, hl, hL⟩ := hk.form
    have IH := Lib.hid ih
    have HL := Lib.hid hL
    have HN := Lib.hid hn
    have HG := Lib.hid hG
    have HK := Lib.hid hk
    clear ih hL hk hn hG
    have HF : Hid (okAll okN (.cons h k .nil) = (okK h k && okAll okN k)) := Lib.hid (by rw [okAll, okK]; simp [okAll])
    obtain ⟨R, hR⟩ : ∃ R, R = okK h k := ⟨_, rfl⟩
    have HO : Hid (∀ W, Below w.heap.size w W → Calls Tryz.prog 55 #[.agg (h.cells (.slice A k.len c))] W (BolP R W)) := Lib.hid (fun W hW => by rw [hR]; exact rOwn_calls h k _ W (HK.out.below hW) HG.out.1)
    rw [← hR] at HF
    rw [HF.out]
    clear hR HF
    simp only [Hd.cells] at HO ⊢
    have HX0 := Lib.hid (Nx.new w h (.slice A k.len c))
    go_enter Tryz.func35, Tryz.ntmps35
    go_wp2_with fail
    refine (HO.out _ (below_a (Below.refl _ _) _)).mono ?_
    rintro o w1 ⟨rfl, hb1⟩
    have HX1 := Lib.hid (HX0.out.below hb1)
    have HB1 := Lib.hid (below_nx (below_a (Below.refl _ _) _) hb1)
    clear hb1 HX0 HO
    cases R with
    | false =>
      go_wp2_with fail
      go_ret
      exact ⟨rfl, HB1.out⟩
    | true =>
      go_wp2_with fail
      go_loopw [3] (fun i wr => ∃ j : Nat, i = .int .i64 j ∧ j ≤ k.len ∧ okAll okN k = okAll okN (k.drop j) ∧ Below w.heap.size w wr ∧ Nx wr w.heap.size h (.slice A k.len c)) (fun i _ => k.len - (intOf i).toNat)
      case atStart => exact ⟨0, rfl, Nat.zero_le _, rfl, HB1.out, HX1.out⟩
      case round =>
        obtain ⟨j, rfl, hj, hsd, hb, hbx⟩ := hrel
        have HB := Lib.hid hb
        have HX := Lib.hid hbx
        have HS := Lib.hid hsd
        have c8 := hbx.c8
        clear hb hbx HB1 HX1 hsd
        by_cases hgo : j < k.len
        · obtain ⟨B, o, rfl, hB, _, hLi⟩ := HL.out (by omega)
          obtain ⟨h', k', r, hd⟩ := drop_cons hgo
          have hLj := lies_drop j hLi
          rw [hd] at hLj
          obtain ⟨⟨v', hc', hk'⟩, hu', _⟩ := lies_cons.1 hLj
          have HK' := Lib.hid hk'
          have HD := Lib.hid hd
          have HGj := Lib.hid (show AllG Gl (.cons h' k' .nil) from allG_cons (allG_at HG.out.2.1 hd).1 (allG_at HG.out.2.1 hd).2 trivial)
          obtain ⟨d0, d1, d2, d3, d4, d5, d6, d7, d8⟩ := (hc'.below HB.out).nine
          obtain ⟨Q, hQ⟩ : ∃ Q, Q = okAll okN (.cons h' k' .nil) := ⟨_, rfl⟩
          have HQ := Lib.hid hQ
          have HE : Hid (okAll okN k = (Q && okAll okN r)) := Lib.hid (by rw [HS.out, hd, hQ]; simp only [okAll, Bool.and_true])
          clear hLi hLj hc' hk' hd hQ hu'
          go_wp2_with fail
          refine (IH.out k' h' v' _ (by have := drop_cnt j k; rw [HD.out, Fo.cnt] at this; have := HN.out; omega) (HK'.out.below HB.out) HGj.out).mono ?_
          rintro e w2 ⟨rfl, hb2⟩
          rw [← HQ.out]
          have HB2 := Lib.hid (below_nx HB.out hb2)
          have HX2 := Lib.hid (HX.out.below hb2)
          clear hb2 d0 d1 d2 d3 d4 d5 d6 d7 d8 c8
          cases Q with
          | true =>
            go_wp2_with fail
            go_roundw
            case rel => exact ⟨j + 1, by go_num, hgo, by rw [HE.out, drop_succ j k HD.out, Bool.true_and], HB2.out, HX2.out⟩
            case measure => simp [intOf]; omega
          | false =>
            go_wp2_with fail
            go_ret
            refine ⟨?_, HB2.out⟩
            rw [HE.out]
            rfl
        · go_wp2_with fail
          go_ret
          refine ⟨?_, HB.out⟩
          rw [HS.out, show k.drop j = .nil by rw [show j = k.len by omega, drop_end]]
          rfl
theorem rAll_calls (k : Fo) (h : Hd) (v : Value) (w : World) (hk : Kd An w v k) (hG : AllG Gl (.cons h k .nil)) : Calls Tryz.prog 35 #[.agg (h.cells v)] w (BolP (okAll okN (.cons h k .nil)) w) := rAll_any (k.cnt + 1) k h v w (by omega) hk hG
set_option maxRecDepth 100000 in
set_option maxHeartbeats 1000000 in
theorem rTree_calls (k : Fo) (h : Hd) (v : Value) (w : World) (hk : Kd An w v k) (hG : AllG Gl (.cons h k .nil)) (hd : k.deep < 1000) (hc : k.cnt < 1000000000) : Calls Tryz.prog 20 #[.agg (h.cells v)] w (BolP (rgt h k) w) := by
  obtain ⟨A, c, rfl, _, _, _⟩ := hk.form
  have HK := Lib.hid hk
  have HG := Lib.hid hG
  have HDp := Lib.hid hd
  obtain ⟨N, hN⟩ : ∃ N : Nat, N = 1 + k.cnt := ⟨_, rfl⟩
  have HC : Hid (∀ W, Below w.heap.size w W → Calls Tryz.prog 12 #[.agg (h.cells (.slice A k.len c))] W fun o w' => o = .returned (.int .i64 (N : Int)) ∧ Below W.heap.size W w') := Lib.hid (fun W hW => by
    have := rCount_calls k h _ W (HK.out.below hW)
    rwa [show wrap64 (1 + (k.cnt : Int)) = (N : Int) by unfold wrap64; omega] at this)
  obtain ⟨D, hD⟩ : ∃ D : Nat, D = k.deep + 1 := ⟨_, rfl⟩
  have HDe : Hid (∀ W, Below w.heap.size w W → Calls Tryz.prog 34 #[.agg (h.cells (.slice A k.len c))] W fun o w' => o = .returned (.int .i64 (D : Int)) ∧ Below W.heap.size W w') := Lib.hid (fun W hW => by rw [hD]; exact rDepth_calls k h _ W HDp.out (HK.out.below hW))
  obtain ⟨R, hR⟩ : ∃ R, R = okAll okN (.cons h k .nil) := ⟨_, rfl⟩
  have HA : Hid (∀ W, Below w.heap.size w W → Calls Tryz.prog 35 #[.agg (h.cells (.slice A k.len c))] W (BolP R W)) := Lib.hid (fun W hW => by rw [hR]; exact rAll_calls k h _ W (HK.out.below hW) HG.out)
  have HF : Hid (rgt h k = (decide (N ≤ 300 ∧ D ≤ 16) && R)) := Lib.hid (by rw [rgt, rightR, hR, hN, hD])
  rw [HF.out]
  clear hN hD hR hk hG hd hc HF
  simp only [Hd.cells] at HC HDe HA ⊢
  have HX := Lib.hid (Nx.new w h (.slice A k.len c))
  have HB := Lib.hid (below_a (Below.refl _ w) (.cells (h.cells (.slice A k.len c)) 27))
  go_enter Tryz.func20, Tryz.ntmps20
  go_wp2_with fail
  refine (HC.out _ HB.out).mono ?_
  rintro o w1 ⟨rfl, hb1⟩
  replace HB := Lib.hid (below_nx HB.out hb1)
  replace HX := Lib.hid (HX.out.below hb1)
  clear hb1
  obtain ⟨y0, y1, y2, y3, y4, y5, y6, y7, y8⟩ := HX.out.nine
  by_cases g1 : N ≤ 300
  · have g1i : (N : Int) ≤ 300 := by omega
    go_wp2_with fail
    refine (HDe.out _ HB.out).mono ?_
    rintro o w2 ⟨rfl, hb2⟩
    replace HB := Lib.hid (below_nx HB.out hb2)
    replace HX := Lib.hid (HX.out.below hb2)
    clear hb2 y0 y1 y2 y3 y4 y5 y6 y7 y8
    obtain ⟨y0, y1, y2, y3, y4, y5, y6, y7, y8⟩ := HX.out.nine
    by_cases g2 : D ≤ 16
    · have g2i : (D : Int) ≤ 16 := by omega
      have HE : Hid (decide (N ≤ 300 ∧ D ≤ 16) = true) := Lib.hid (decide_eq_true ⟨g1, g2⟩)
      go_wp2_with fail
      refine (HA.out _ HB.out).mono ?_
      rintro o w3 ⟨rfl, hb3⟩
      replace HB := Lib.hid (below_nx HB.out hb3)
      clear hb3 y0 y1 y2 y3 y4 y5 y6 y7 y8
      go_wp2_with fail
      go_ret
      exact ⟨by first | rfl | (rw [HE.out, Bool.true_and]; rfl), HB.out⟩
    · have g2i : ¬ (D : Int) ≤ 16 := by omega
      have HE : Hid (decide (N ≤ 300 ∧ D ≤ 16) = false) := Lib.hid (decide_eq_false (fun e => g2 e.2))
      go_wp2_with fail
      go_ret
      exact ⟨by first | rfl | (rw [HE.out, Bool.false_and]; rfl), HB.out⟩
  · have g1i : ¬ (N : Int) ≤ 300 := by omega
    have HE : Hid (decide (N ≤ 300 ∧ D ≤ 16) = false) := Lib.hid (decide_eq_false (fun e => g1 e.1))
    go_wp2_with fail
    go_ret
    exact ⟨by first | rfl | (rw [HE.out, Bool.false_and]; rfl), HB.out⟩
end Go.Proofs.YtomociaidccfmaaGreatDoor
