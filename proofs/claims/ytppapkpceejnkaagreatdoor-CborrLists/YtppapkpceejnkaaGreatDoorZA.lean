/- The document's own: Depth, only. -/
import Derived.Test.YtppapkpceejnkaaGreatDoorYB
namespace Go.Proofs.YtppapkpceejnkaaGreatDoor
open Go.RowKit

set_option maxRecDepth 100000 in
set_option maxHeartbeats 1000000 in
theorem rDepth_any (n : Nat) : ∀ (k : Fo) (h : Hd) (v : Value) (w : World), k.cnt < n → k.deep < 1000 → Kd An w v k →
    Calls Tryz.prog 21 #[.agg (h.cells v)] w fun o w' => o = .returned (.int .i64 ((k.deep + 1 : Nat) : Int)) ∧ Below w.heap.size w w' := by
  induction n with
  | zero => intro k h v w hn; omega
  | succ n ih =>
    intro k h v w hn hdp hk
    obtain ⟨A, c, rfl, hc, hl, hL⟩ := hk.form
    have IH := Lib.hid ih
    have HL := Lib.hid hL
    have HN := Lib.hid hn
    have HDp := Lib.hid hdp
    clear ih hL hk hn hdp
    simp only [Hd.cells]
    go_enter Tryz.func21, Tryz.ntmps21
    go_wp2_with fail
    have HB0 := Lib.hid (Nx.new w h (.slice A k.len c))
    go_loopw [3, 4] (fun x i wr => ∃ j : Nat, i = .int .i64 j ∧ j ≤ k.len ∧ x = .int .i64 ((k.take j).deep : Int) ∧ Below w.heap.size w wr ∧ Nx wr w.heap.size h (.slice A k.len c)) (fun _ i _ => k.len - (intOf i).toNat)
    case atStart => exact ⟨0, rfl, Nat.zero_le _, rfl, below_a (Below.refl _ _) _, HB0.out⟩
    case round =>
      obtain ⟨j, rfl, hj, rfl, hb, hbx⟩ := hrel
      have HB := Lib.hid hb
      have HX := Lib.hid hbx
      have c8 := hbx.c8
      clear hb hbx HB0
      by_cases hgo : j < k.len
      · obtain ⟨B, o, rfl, hB, _, hLi⟩ := HL.out (by omega)
        obtain ⟨h', k', r, hd⟩ := drop_cons hgo
        have hLj := lies_drop j hLi
        rw [hd] at hLj
        obtain ⟨⟨v', hc', hk'⟩, hu', _⟩ := lies_cons.1 hLj
        have HK' := Lib.hid hk'
        have HD := Lib.hid hd
        obtain ⟨d0, d1, d2, d3, d4, d5, d6, d7, d8⟩ := (hc'.below HB.out).nine
        have hkd : k'.deep < 1000 := by have := drop_deep j k hd; have := HDp.out; omega
        clear hLi hLj hc' hk' hd hu'
        go_wp2_with fail
        refine (IH.out k' h' v' _ (by have := drop_cnt j k; rw [HD.out, Fo.cnt] at this; have := HN.out; omega) hkd (HK'.out.below HB.out)).mono ?_
        rintro e w1 ⟨rfl, hb1⟩
        obtain ⟨M, hM⟩ : ∃ M : Nat, M = max (k.take j).deep (k'.deep + 1) := ⟨_, rfl⟩
        have hMM : max ((k.take j).deep : Int) ((k'.deep + 1 : Nat) : Int) = (M : Int) := by omega
        have hMM2 : max ((k.take j).deep : Int) ((k'.deep : Int) + 1) = (M : Int) := by omega
        have HM := Lib.hid hM
        clear hM
        go_wp2_with fail
        go_roundw
        case rel =>
          refine ⟨j + 1, by go_num, hgo, ?_, below_nx HB.out hb1, HX.out.below hb1⟩
          rw [take_app j k HD.out, deep_app, HM.out]
          simp [Fo.deep]
        case measure => simp [intOf]; omega
      · have HE : Hid ((k.take j).deep = k.deep) := Lib.hid (by
          obtain rfl : j = k.len := by omega
          rw [take_all])
        rw [HE.out]
        have hdl : (k.deep : Int) < 1000 := by have := HDp.out; omega
        go_wp2_with fail
        go_ret
        exact ⟨by simp, HB.out⟩
theorem rDepth_calls (k : Fo) (h : Hd) (v : Value) (w : World) (hd : k.deep < 1000) (hk : Kd An w v k) :
    Calls Tryz.prog 21 #[.agg (h.cells v)] w fun o w' => o = .returned (.int .i64 ((k.deep + 1 : Nat) : Int)) ∧ Below w.heap.size w w' := rDepth_any (k.cnt + 1) k h v w (by omega) hd hk
set_option maxRecDepth 100000 in
theorem rOnly_calls (h h2 : Hd) (k : Fo) (v : Value) (A2 : Option Addr) (n2 c2 : Nat) (w : World) (hk : Kd An w v k) :
    Calls Tryz.prog 193 #[.agg (h.cells v), .agg (h2.cells (.slice A2 n2 c2))] w (BolP (sameH h { h2 with kind := h.kind }) w) := by
  obtain ⟨A, c, rfl, _, _, _⟩ := hk.form
  have HK := Lib.hid hk
  clear hk
  obtain ⟨R, hR⟩ : ∃ R, R = sameH h { h2 with kind := h.kind } := ⟨_, rfl⟩
  rw [← hR]
  obtain ⟨W, hW⟩ : ∃ W, W = (w.alloc (.cells (h.cells (.slice A k.len c)) 28)).alloc (.cells (({ h2 with kind := h.kind } : Hd).cells (.slice A k.len c)) 28) := ⟨_, rfl⟩
  have HB : Hid (Below w.heap.size w W) := Lib.hid (by rw [hW]; exact below_a (below_a (Below.refl _ _) _) _)
  have HC : Hid (Calls Tryz.prog 19 #[.agg (h.cells (.slice A k.len c)), .agg (({ h2 with kind := h.kind } : Hd).cells (.slice A k.len c))] W (BolP R W)) := Lib.hid (by
    have := rSame_calls k k h { h2 with kind := h.kind } _ _ W (HK.out.below HB.out) (HK.out.below HB.out)
    rw [same_refl, Bool.and_true] at this
    rw [hR]
    exact this)
  clear hR
  simp only [Hd.cells] at HC hW ⊢
  go_enter Tryz.func193, Tryz.ntmps193
  go_wp2_with fail
  rw [← hW]
  refine HC.out.mono ?_
  rintro o w1 ⟨rfl, hb1⟩
  have HB1 := Lib.hid (below_nx HB.out hb1)
  clear hb1
  go_wp2_with fail
  go_ret
  exact ⟨rfl, HB1.out⟩
end Go.Proofs.YtppapkpceejnkaaGreatDoor
