/- The document's own: Depth. -/
import Derived.Test.YtallgamfjbkdgaaGreatDoorB1
namespace Go.Proofs.YtallgamfjbkdgaaGreatDoor
open Go.RowKit

set_option maxRecDepth 100000 in
set_option maxHeartbeats 1000000 in
theorem rDepth_any (n : Nat) : ∀ (k : Fo) (h : Hd) (v : Value) (w : World), k.cnt < n → k.deep < 1000 → Kd An w v k →
    Calls Tryz.prog 16 #[.agg (h.cells v)] w fun o w' => o = .returned (.int .i64 ((k.deep + 1 : Nat) : Int)) ∧ Below w.heap.size w w' := by
  induction n with
  | zero => intro k h v w hn; omega
  | succ n ih =>
    intro k h v w hn hdp hk
    obtain ⟨A, c, rfl, hc, hl, hL⟩ := hk.form
    have IH := Lib.hid ih
    have HL := Lib.hid hL
    have HN := Lib.hid hn
    have HDp := Lib.hid hdp
    clear ih hL hk hn hdp
    simp only [Hd.cells]
    go_enter Tryz.func16, Tryz.ntmps16
    go_wp2_with fail
    have HB0 := Lib.hid (Nx.new w h (.slice A k.len c))
    go_loopw [3, 4] (fun x i wr => ∃ j : Nat, i = .int .i64 j ∧ j ≤ k.len ∧ x = .int .i64 ((k.take j).deep : Int) ∧ Below w.heap.size w wr ∧ Nx wr w.heap.size h (.slice A k.len c)) (fun _ i _ => k.len - (intOf i).toNat)
    case atStart => exact ⟨0, rfl, Nat.zero_le _, rfl, below_a (Below.refl _ _) _, HB0.out⟩
    case round =>
      obtain ⟨j, rfl, hj, rfl, hb, hbx⟩ := hrel
      have HB := Lib.hid hb
      have HX := Lib.hid hbx
      have c8 := hbx.c8
      clear hb hbx HB0
      by_cases hgo : j < k.len
      · obtain ⟨B, o, rfl, hB, _, hLi⟩ := HL.out (by omega)
        obtain ⟨h', k', r, hd⟩ := drop_cons hgo
        have hLj := lies_drop j hLi
        rw [hd] at hLj
        obtain ⟨⟨v', hc', hk'⟩, hu', _⟩ := lies_cons.1 hLj
        have HK' := Lib.hid hk'
        have HD := Lib.hid hd
        obtain ⟨d0, d1, d2, d3, d4, d5, d6, d7, d8⟩ := (hc'.below HB.out).nine
        have hkd : k'.deep < 1000 := by have := drop_deep j k hd; have := HDp.out; omega
        clear hLi hLj hc' hk' hd hu'
        go_wp2_with fail
        refine (IH.out k' h' v' _ (by have := drop_cnt j k; rw [HD.out, Fo.cnt] at this; have := HN.out; omega) hkd (HK'.out.below HB.out)).mono ?_
        rintro e w1 ⟨rfl, hb1⟩
        obtain ⟨M, hM⟩ : ∃ M : Nat, M = max (k.take j).deep (k'.deep + 1) := ⟨_, rfl⟩
        have hMM : max ((k.take j).deep : Int) ((k'.deep + 1 : Nat) : Int) = (M : Int) := by omega
        have hMM2 : max ((k.take j).deep : Int) ((k'.deep : Int) + 1) = (M : Int) := by omega
        have HM := Lib.hid hM
        clear hM
        go_wp2_with fail
        go_roundw
        case rel =>
          refine ⟨j + 1, by go_num, hgo, ?_, below_nx HB.out hb1, HX.out.below hb1⟩
          rw [take_app j k HD.out, deep_app, HM.out]
          simp [Fo.deep]
        case measure => simp [intOf]; omega
      · have HE : Hid ((k.take j).deep = k.deep) := Lib.hid (by
          obtain rfl : j = k.len := by omega
          rw [take_all])
        rw [HE.out]
        have hdl : (k.deep : Int) < 1000 := by have := HDp.out; omega
        go_wp2_with fail
        go_ret
        exact ⟨by simp, HB.out⟩
theorem rDepth_calls (k : Fo) (h : Hd) (v : Value) (w : World) (hd : k.deep < 1000) (hk : Kd An w v k) :
    Calls Tryz.prog 16 #[.agg (h.cells v)] w fun o w' => o = .returned (.int .i64 ((k.deep + 1 : Nat) : Int)) ∧ Below w.heap.size w w' := rDepth_any (k.cnt + 1) k h v w (by omega) hd hk
end Go.Proofs.YtallgamfjbkdgaaGreatDoor
