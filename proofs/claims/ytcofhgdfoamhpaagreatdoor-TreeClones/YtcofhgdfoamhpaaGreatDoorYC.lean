/- The program's own: Clone. -/
import Derived.Test.YtcofhgdfoamhpaaGreatDoorYA
namespace Go.Proofs.YtcofhgdfoamhpaaGreatDoor
open Go.RowKit

def mk9 (n : Nat) : Array Value := madeCells #[.int .i64 0, .bool false, .bool false, .string ⟨#[]⟩, .int .i64 0, .int .u64 0, .int .i64 0, .string ⟨#[]⟩, .slice none 0 0] (n * 9)
theorem size_mk9 (n : Nat) : (mk9 n).size = n * 9 := size_madeCells _ _
theorem run_make_nodes (W : World) (n : Nat) (hn : n < 1353245080301) : (Instr.makeSlice 25 (.int .i64 (n : Int)) (.int .i64 (n : Int))).run Tryz.prog W = .ok (.slice (some ⟨W.heap.size, 0, none⟩) n n) (W.alloc (.cells (mk9 n) 27)) := by
  obtain ⟨i0, hi, hz0, hz1, hz2⟩ := infoN_parts
  have h := run_make (P := Tryz.prog) W 25 27 i0 _ Tryz.underlying25 hi hz0 .i64 .i64 (n : Int) (n : Int) (by omega) (Int.le_refl _) (by rw [hz2]; omega) (by omega)
  rw [h, hz1, Int.toNat_natCast]
  rfl
def CloneP (w : World) (h : Hd) (k : Fo) (o : Ending) (w' : World) : Prop := ∃ v', o = .returned (.agg (h.cells v')) ∧ Ck w.heap.size w' v' k ∧ Below w.heap.size w w'
set_option maxRecDepth 100000 in
set_option maxHeartbeats 2000000 in
theorem Clone_any (n : Nat) : ∀ (k : Fo) (h : Hd) (v : Value) (w : World), k.cnt < n → Kd An w v k → Gl h k → AllG Gl k →
    Calls Tryz.prog 23 #[.agg (h.cells v)] w (CloneP w h k) := by
  induction n with
  | zero => intro k h v w hn; omega
  | succ n ih =>
    intro k h v w hn hk hg hG
    obtain ⟨A, c, rfl, hc, hl, hL⟩ := hk.form
    have IH := Lib.hid ih
    have HL := Lib.hid hL
    have HN := Lib.hid hn
    have HG := Lib.hid hG
    have HKG := Lib.hid hg
    clear ih hL hk hn hG hg hc
    by_cases h0 : k.len = 0
    · obtain rfl := len_nil h0
      simp only [Fo.len, Hd.cells]
      clear h0
      go_enter Tryz.func23, Tryz.ntmps23
      go_wp2_with fail
      refine bodyPost_ret (results_cell_row Tryz.results23 _ _ (w.heap.size + 1) 27 (h.cells (.slice none 0 0)) (0, 0) _ rfl (Bx.new1 w _ _ _) Tryz.underlying27 rfl sizeN) rfl ?_
      exact ⟨_, rfl, .inl ⟨_, _, rfl, rfl⟩, below_a (below_a (Below.refl _ _) _) _⟩
    · have hmk := fun W => run_make_nodes W k.len HKG.out
      have hne : ¬ (k.len : Int) = 0 := by omega
      simp only [Hd.cells]
      go_enter Tryz.func23, Tryz.ntmps23
      go_wp2_with fail
      go_loopw [19] (fun i wr => ∃ (j : Nat) (cur : Array Value), i = .int .i64 j ∧ j ≤ k.len ∧ Bx wr (w.heap.size + 1 + 1) cur 27 ∧ cur.size = k.len * 9 ∧ CkL (w.heap.size + 3) wr (k.take j) (cur.toList.take (j * 9)) ∧ Below w.heap.size w wr ∧ Nx wr w.heap.size h (.slice A k.len c) ∧ Nx wr (w.heap.size + 1) zH (.slice none 0 0)) (fun i _ => k.len - (intOf i).toNat)
      case atStart => exact ⟨0, mk9 k.len, rfl, Nat.zero_le _, Bx.new2 w _ _ _ _, size_mk9 _, by rw [Nat.zero_mul]; exact rfl, below_a (below_a (below_a (Below.refl _ _) _) _) _, ((Nx.new w h _).alloc _).alloc _, (show Nx _ (w.heap.size + 1) zH (.slice none 0 0) from Bx.new1 w _ _ _).alloc _⟩
      case round =>
        obtain ⟨j, cur, rfl, hj, hrow, hsz, hck, hb, hbx, hbz⟩ := hrel
        have HR := Lib.hid hrow
        have HSZ := Lib.hid hsz
        have HCk := Lib.hid hck
        have HB := Lib.hid hb
        have HX := Lib.hid hbx
        have HZ := Lib.hid hbz
        have hLw := hrow.lt
        clear hrow hsz hck hb hbx hbz
        by_cases hgo : j < k.len
        · obtain ⟨B, o, rfl, hB, _, hLi⟩ := HL.out (by omega)
          obtain ⟨h', k', r, hd⟩ := drop_cons hgo
          have hLj := lies_drop j hLi
          rw [hd] at hLj
          obtain ⟨⟨v', hc', hk'⟩, hu', _⟩ := lies_cons.1 hLj
          have HK' := Lib.hid hk'
          have HD := Lib.hid hd
          have HU' := Lib.hid hu'
          obtain ⟨d0, d1, d2, d3, d4, d5, d6, d7, d8⟩ := (hc'.below HB.out).nine
          obtain ⟨A', c', rfl, _, _, _⟩ := hk'.form
          clear hLi hLj hc' hk' hd hu'
          go_wp2_with fail
          refine (IH.out k' h' (.slice A' k'.len c') _ (by have := drop_cnt j k; rw [HD.out, Fo.cnt] at this; have := HN.out; omega) ((HK'.out.below HB.out).below (below_a (Below.refl _ _) _)) (allG_at2 HG.out HD.out).1 (allG_at2 HG.out HD.out).2).mono ?_
          rintro e w2 ⟨v1, rfl, hck1, hb1⟩
          have HC1 := Lib.hid hck1
          obtain ⟨A1, c1, rfl, _, _, _⟩ := hck1.kd.form
          have HB1 := Lib.hid (below_nx (below_a (Below.refl _ _) _) hb1)
          clear hck1 hb1 d0 d1 d2 d3 d4 d5 d6 d7 d8
          have HR1 := Lib.hid (HR.out.below HB1.out)
          obtain ⟨a0, a1, a2, a3, a4, a5, a6, a7, a8, e0, e1, e2, e3, e4, e5, e6, e7, e8⟩ := row_cells (m := j * 9) HR1.out (by have := HSZ.out; omega)
          have z := fun i => HR1.out.f i
          have z0 := z (j * 9)
          have z1 := z (j * 9 + 1)
          have z2 := z (j * 9 + 2)
          have z3 := z (j * 9 + 3)
          have z4 := z (j * 9 + 4)
          have z5 := z (j * 9 + 5)
          have z6 := z (j * 9 + 6)
          have z7 := z (j * 9 + 7)
          have z8 := z (j * 9 + 8)
          clear z
          simp only [Hd.cells]
          go_wp2_with fail
          go_roundw
          case rel =>
            have hW3 : ∀ b, b ≠ w.heap.size + 1 + 1 → (setR w2 (w.heap.size + 1 + 1) (j * 9) (.int .i64 h'.kind) (.bool h'.b) (.bool h'.neg) (.string h'.dig) (.int .i64 h'.exp) (.int .u64 (h'.u : Int)) (.int .i64 h'.w) (.string h'.s) (.slice A1 k'.len c1)).heap[b]? = w2.heap[b]? := fun b hb => setR_other _ _ _ _ _ _ _ _ _ hb
            refine ⟨j + 1, set9 cur (j * 9) (.int .i64 h'.kind) (.bool h'.b) (.bool h'.neg) (.string h'.dig) (.int .i64 h'.exp) (.int .u64 (h'.u : Int)) (.int .i64 h'.w) (.string h'.s) (.slice A1 k'.len c1), by go_num, hgo, setR_same _ _ _ _ _ _ _ _ _ HR1.out, by simp only [set9, Array.size_setIfInBounds]; exact HSZ.out, ?_, below_setR _ _ _ _ _ _ _ _ _ (below_nx HB.out HB1.out) (by omega), (hW3 _ (by omega)).trans (HX.out.below HB1.out), (hW3 _ (by omega)).trans (HZ.out.below HB1.out)⟩
            rw [take_set9 HSZ.out hgo rfl, take_app j k HD.out]
            refine ckl_app (HCk.out.kept fun b hb hb2 => (hW3 b (by omega)).trans (HB1.out.block b hb2)) ⟨.slice A1 k'.len c1, [], by simp, HU'.out, ?_, rfl⟩
            exact (HC1.out.mono (base' := w.heap.size + 3) (by simp; omega)).kept fun b hb hb2 => hW3 b (by omega)
          case measure => simp [intOf]; omega
        · obtain rfl : j = k.len := by omega
          have f8 : wr.frozen? ⟨w.heap.size, 8, none⟩ = false := Bx.f HX.out 8
          obtain ⟨c0, c1, c2, c3, c4, c5, c6, c7, _⟩ := HX.out.nine
          obtain ⟨z0, z1, z2, z3, z4, z5, z6, z7, z8⟩ := HZ.out.nine
          have f0 : ∀ i, wr.frozen? ⟨w.heap.size + 1, i, none⟩ = false := Bx.f HZ.out
          have y0 := f0 0
          have y1 := f0 1
          have y2 := f0 2
          have y3 := f0 3
          have y4 := f0 4
          have y5 := f0 5
          have y6 := f0 6
          have y7 := f0 7
          have y8 := f0 8
          clear f0
          obtain ⟨V, hV⟩ : ∃ V, V = Value.slice (some ⟨w.heap.size + 1 + 1, 0, none⟩) k.len k.len := ⟨_, rfl⟩
          have HY : Hid (Nx (setN (wr.setCell ⟨w.heap.size, 8, none⟩ V) (w.heap.size + 1) h V) (w.heap.size + 1) h V ∧ Below w.heap.size w (setN (wr.setCell ⟨w.heap.size, 8, none⟩ V) (w.heap.size + 1) h V) ∧ Ck w.heap.size (setN (wr.setCell ⟨w.heap.size, 8, none⟩ V) (w.heap.size + 1) h V) V k) := Lib.hid (by
            refine ⟨Nx.setN (HZ.out.off (by omega)) _ _, below_setN (HB.out.setCell (p := ⟨w.heap.size, 8, none⟩) (Nat.le_refl _) _) (by omega) _ _, ?_⟩
            have hko : ∀ b, w.heap.size + 1 < b → (setN (wr.setCell ⟨w.heap.size, 8, none⟩ V) (w.heap.size + 1) h V).heap[b]? = wr.heap[b]? := fun b hb => by
              rw [setN_other (by omega)]
              exact Below.heap_setCell _ ⟨w.heap.size, 8, none⟩ _ b (by show b ≠ w.heap.size; omega)
            have hq := HCk.out
            rw [take_all, List.take_of_length_le (by simp [HSZ.out])] at hq
            exact .inr ⟨_, cur, hV, hl, by omega, (hko _ (by omega)).trans HR.out, CkL.mono (by omega) (hq.kept fun b hb _ => hko b (by omega))⟩)
          subst hV
          go_wp2_with fail
          refine bodyPost_ret (results_cell_row Tryz.results23 _ _ (w.heap.size + 1) 27 (h.cells (.slice (some ⟨w.heap.size + 1 + 1, 0, none⟩) k.len k.len)) (0, 0) _ rfl HY.out.1 Tryz.underlying27 rfl sizeN) rfl ?_
          exact ⟨_, rfl, HY.out.2.2, HY.out.2.1⟩
theorem Clone_calls (k : Fo) (h : Hd) (v : Value) (w : World) (hk : Kd An w v k) (hg : Gl h k) (hG : AllG Gl k) : Calls Tryz.prog 23 #[.agg (h.cells v)] w (CloneP w h k) := Clone_any (k.cnt + 1) k h v w (by omega) hk hg hG
end Go.Proofs.YtcofhgdfoamhpaaGreatDoor
