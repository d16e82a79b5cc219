/- The laws' own: the walk of Cut. -/
import Derived.Test.YtppapkpceejnkaaGreatDoorMa
import Derived.Deep.AppendLies
import Derived.Shelf.Strings.Repeat
namespace Go.Proofs.YtppapkpceejnkaaGreatDoor
open Go.RowKit

theorem infoN : (Tryz.prog.info? 28).map (fun i => (i.zero, i.size, i.bytes)) = some (some (.agg #[.int .i64 0, .bool false, .bool false, .string ⟨#[]⟩, .int .i64 0, .int .u64 0, .int .i64 0, .string ⟨#[]⟩, .slice none 0 0]), 9, 104) := by kernel_rfl
theorem infoN_parts : ∃ i, Tryz.prog.info? 28 = some i ∧ i.zero = some (.agg #[.int .i64 0, .bool false, .bool false, .string ⟨#[]⟩, .int .i64 0, .int .u64 0, .int .i64 0, .string ⟨#[]⟩, .slice none 0 0]) ∧ i.size = 9 ∧ i.bytes = 104 := by
  have h := infoN
  cases hi : Tryz.prog.info? 28 with
  | none => rw [hi] at h; cases h
  | some i =>
    rw [hi] at h
    simp only [Option.map_some, Option.some.injEq, Prod.mk.injEq] at h
    exact ⟨i, rfl, h.1, h.2.1, h.2.2⟩
def zH : Hd := ⟨0, false, false, ⟨#[]⟩, 0, 0, 0, ⟨#[]⟩⟩
theorem owns_below {W W' : World} {base size n : Nat} {e : TypeId} {v : Value} {xs : List Value} (h : W.ownsRow base e size v n xs) (hb : Below W.heap.size W W') : W'.ownsRow base e size v n xs :=
  ⟨h.1, h.2.imp id fun ⟨g, cap, cur, h1, h2, h3, h4⟩ => ⟨g, cap, cur, h1, h2, (hb.block g (Array.getElem?_eq_some_iff.1 h3).1).trans h3, h4⟩⟩
theorem news_blk {w : World} {B : Nat} {t : TypeId} {fr : Nat × Nat} (cs : Array Value) (hb : w.heap[B]? = some (.cells cs t fr)) : ∀ (j : Nat) u, cs.toList[j]? = some u → w.cell? ((⟨B, 0, none⟩ : Addr).add j) = some u := fun j u hu => by
  have hadd : (⟨B, 0, none⟩ : Addr).add j = ⟨B, j, none⟩ := by unfold Addr.add; split <;> simp_all
  rw [hadd, cell_of_row w B j cs t fr hb]
  simpa using hu
theorem owns_block {W : World} {base size n : Nat} {e : TypeId} {v : Value} {xs : List Value} (h : W.ownsRow base e size v n xs) {b : Nat} (hb : v.ownBlock = some b) : base ≤ b ∧ b < W.heap.size := by
  obtain ⟨_, ⟨rfl, _⟩ | ⟨g, cap, cur, rfl, h3, h4, _⟩⟩ := h
  · cases hb
  · cases hb; exact ⟨h3, (Array.getElem?_eq_some_iff.1 h4).1⟩
theorem rw_step {b0 base n g cp m : Nat} {wr w1 w3 : World} {u5 v1 : Value} {f k2 : Fo} {h2 : Hd} {xs : List Value} {o : Obj} (hb1 : Below wr.heap.size wr w1)
    (hR : Rw (fun b => b0 ≤ b ∧ u5.ownBlock ≠ some b) wr f xs) (ho : wr.ownsRow base 28 9 u5 n xs) (hk : Kd (fun b => wr.heap.size ≤ b) w1 v1 k2)
    (hg : (w1.alloc o).grownBy w3 u5.ownBlock) (hgg : u5.ownBlock = some g ∨ g = (w1.alloc o).heap.size) (hb0 : b0 ≤ wr.heap.size) (hu : h2.u < 18446744073709551616) :
    Rw (fun b => b0 ≤ b ∧ (Value.slice (some ⟨g, 0, none⟩) m cp).ownBlock ≠ some b) w3 (f.app (.cons h2 k2 .nil)) (xs ++ (h2.cells v1).toList) := by
  have hs1 := hb1.size
  have hs2 := hg.size
  rw [World.size_alloc] at hs2 hgg
  have hal : ∀ b, b < w1.heap.size → (w1.alloc o).heap[b]? = w1.heap[b]? := fun b hb => Below.heap_alloc _ _ _ hb
  have a1 : Rw (fun b => (b0 ≤ b ∧ u5.ownBlock ≠ some b) ∧ b < wr.heap.size) wr f xs := hR.mono fun b h1 h2 => ⟨h1, h2⟩
  have a2 := Rw.kept (W' := w3) (by omega) (fun b h1 h2 => (hg.block b (by simp; omega) (fun e => h1.1.2 e.symm)).trans ((hal b (by omega)).trans (hb1.block b h2))) a1
  have a3 : Rw (fun b => b0 ≤ b ∧ (Value.slice (some ⟨g, 0, none⟩) m cp).ownBlock ≠ some b) w3 f xs := a2.mono fun b h1 _ => ⟨h1.1.1, fun e => by
    obtain ⟨⟨q1, q2⟩, q3⟩ := h1
    obtain rfl : g = b := Option.some.inj e
    rcases hgg with h | h
    · exact q2 h
    · omega⟩
  refine rw_app a3 ⟨v1, [], by simp, ?_, hu, rfl⟩
  · have k1 : Kd (fun b => wr.heap.size ≤ b ∧ b < w1.heap.size) w1 v1 k2 := hk.mono fun b h1 h2 => ⟨h1, h2⟩
    have kk := k1.kept (W' := w3) (by omega) (fun b h1 h2 => (hg.block b (by simp; omega) (fun e => by have := owns_block ho e.symm; omega)).trans (hal b h2))
    exact kk.mono fun b h1 _ => ⟨by obtain ⟨q1, q2⟩ := h1; omega, fun e => by
      obtain ⟨q1, q2⟩ := h1
      obtain rfl : g = b := Option.some.inj e
      rcases hgg with h | h
      · have hq := owns_block ho h; omega
      · omega⟩
set_option maxRecDepth 100000 in
theorem Cut_any (n : Nat) : ∀ (D : Nat) (k : Fo) (h : Hd) (v : Value) (w : World), D < n → D ≤ 18 → Kd An w v k → h.u < 18446744073709551616 →
    Calls Tryz.prog 40 #[.agg (h.cells v), .int .i64 (D : Int)] w fun o w' => ∃ v', o = .returned (.agg ((cutH h).cells v')) ∧ Kd (fun b => w.heap.size ≤ b) w' v' (cutK D k) ∧ Below w.heap.size w w' := by
  induction n with
  | zero => intro D k h v w hn; omega
  | succ n ih =>
    intro D k h v w hn hD hk hu
    obtain ⟨A, c, rfl, hc, hl, hL⟩ := hk.form
    have IH := Lib.hid ih
    have HL := Lib.hid hL
    have HU := Lib.hid hu
    clear ih hL hk hu
    obtain ⟨m1, hm1⟩ : ∃ m1, m1 = min h.s.size 410 := ⟨_, rfl⟩
    obtain ⟨m2, hm2⟩ : ∃ m2, m2 = min h.dig.size 200 := ⟨_, rfl⟩
    have e1 : min (h.s.size : Int) 410 = (m1 : Int) := by omega
    have e2 : min (h.dig.size : Int) 200 = (m2 : Int) := by omega
    have l1 : m1 ≤ h.s.size := by omega
    have l2 : m2 ≤ h.dig.size := by omega
    have HM1 := Lib.hid hm1
    have HM2 := Lib.hid hm2
    clear hm1 hm2
    simp only [Hd.cells]
    go_enter Tryz.func40, Tryz.ntmps40
    go_wp2_with fail
    obtain ⟨h1, hh1⟩ : ∃ h1 : Hd, h1 = cutH h := ⟨_, rfl⟩
    have HH := Lib.hid hh1
    have HB0 := Lib.hid ((show Nx _ w.heap.size h1 (.slice A k.len c) from by rw [hh1, cutH, cutB, cutB, ← HM1.out, ← HM2.out]; exact Nx.new w { h with dig := h.dig.extract 0 m2, s := h.s.extract 0 m1 } (.slice A k.len c)).alloc (.cells #[.int .i64 0, .bool false, .bool false, .string ⟨#[]⟩, .int .i64 0, .int .u64 0, .int .i64 0, .string ⟨#[]⟩, .slice none 0 0] 28))
    have HZ0 : Hid (Nx ((w.alloc (.cells #[.int .i64 h.kind, .bool h.b, .bool h.neg, .string (h.dig.extract 0 m2), .int .i64 h.exp, .int .u64 (h.u : Int), .int .i64 h.w, .string (h.s.extract 0 m1), .slice A k.len c] 28)).alloc (.cells #[.int .i64 0, .bool false, .bool false, .string ⟨#[]⟩, .int .i64 0, .int .u64 0, .int .i64 0, .string ⟨#[]⟩, .slice none 0 0] 28)) (w.heap.size + 1) zH (.slice none 0 0)) := Lib.hid (by
      have := Nx.new (w.alloc (.cells #[.int .i64 h.kind, .bool h.b, .bool h.neg, .string (h.dig.extract 0 m2), .int .i64 h.exp, .int .u64 (h.u : Int), .int .i64 h.w, .string (h.s.extract 0 m1), .slice A k.len c] 28)) zH (.slice none 0 0)
      rw [World.size_alloc] at this; exact this)
    clear hh1
    obtain ⟨i0, hi0, hz0, hz1, hz2⟩ := infoN_parts
    have I0 := Lib.hid hi0
    have I1 := Lib.hid hz0
    have I2 := Lib.hid hz1
    have I3 := Lib.hid hz2
    clear hi0 hz0 hz1 hz2
    go_loopw [5, 6] (fun x i wr => ∃ (j : Nat) (xs : List Value), i = .int .i64 j ∧ j ≤ k.len ∧ j ≤ 40 ∧ (1 < D ∨ j = 0) ∧ wr.ownsRow (w.heap.size + 2) 28 9 x j xs ∧ Rw (fun b => w.heap.size + 2 ≤ b ∧ x.ownBlock ≠ some b) wr ((cutF k (D - 1) 40).take j) xs ∧ Below w.heap.size w wr ∧ Nx wr w.heap.size h1 (.slice A k.len c) ∧ Nx wr (w.heap.size + 1) zH (.slice none 0 0)) (fun _ i _ => k.len - (intOf i).toNat)
    case atStart => exact ⟨0, [], rfl, Nat.zero_le _, by omega, .inr rfl, World.ownsRow_nil _ _ _ _, rfl, below_a (below_a (Below.refl _ _) _) _, HB0.out, HZ0.out⟩
    case round =>
      obtain ⟨j, xs, rfl, hj, hj4, hD1, hown, hrw, hb, hbx, hbz⟩ := hrel
      have HO := Lib.hid hown
      have HR := Lib.hid hrw
      have HB := Lib.hid hb
      have HX := Lib.hid hbx
      have HZ := Lib.hid hbz
      have HJ := Lib.hid hD1
      have c8 := hbx.c8
      have hz := hbz.lt
      clear hown hrw hb hbx hbz HB0 HZ0 hD1 e1 e2 l1 l2
      by_cases hgo : j < k.len ∧ j < 40 ∧ 1 < D
      · obtain ⟨g1, g2, g3⟩ := hgo
        obtain ⟨B, o, rfl, hB, _, hLi⟩ := HL.out (by omega)
        obtain ⟨h', k', r, hd⟩ := drop_cons g1
        have hLj := lies_drop j hLi
        rw [hd] at hLj
        obtain ⟨⟨v', hc', hk'⟩, hu', _⟩ := lies_cons.1 hLj
        have HK' := Lib.hid hk'
        have HD := Lib.hid hd
        have HU' := Lib.hid hu'
        obtain ⟨d0, d1, d2, d3, d4, d5, d6, d7, d8⟩ := (hc'.below HB.out).nine
        obtain ⟨E, hE⟩ : ∃ E : Nat, (D : Int) - 1 = (E : Int) := ⟨D - 1, by omega⟩
        have HE := Lib.hid (show E = D - 1 by omega)
        clear hLi hLj hc' hk' hd hu'
        have hD2 : (1 : Int) < (D : Int) := by omega
        go_wp2_with (first
          | (go_at_call 40
             refine (IH.out E k' h' v' _ (by have := HE.out; omega) (by have := HE.out; omega) (HK'.out.below HB.out) HU'.out).mono ?_
             rintro e w1 ⟨v1, rfl, hk1, hb1⟩
             obtain ⟨h2, hh2⟩ : ∃ h2 : Hd, h2 = cutH h' := ⟨_, rfl⟩
             rw [← hh2]
             have HH2 := Lib.hid hh2
             have HK1 := Lib.hid hk1
             obtain ⟨A1, c1, rfl, _, _, _⟩ := hk1.form
             have HB1 := Lib.hid hb1
             clear hk1 hb1 hh2
             simp only [Hd.cells])
          | (at_builtin
             refine wpList_append_lies _ rfl (.tmp 41) (.tmp 50) 26 rfl (w.heap.size + 2) 28 i0 _ 9 104 Tryz.underlying26 I0.out I1.out I2.out I3.out rfl (by decide) u5 j xs rfl ((owns_below HO.out HB1.out).alloc _) ⟨w1.heap.size, 0, none⟩ 1 1 ((h2.cells (.slice A1 (cutK E k').len c1)).toList) rfl rfl (news_blk (h2.cells (.slice A1 (cutK E k').len c1)) (heap_alloc_new w1 _)) (by intro u hu; simp [Hd.cells] at hu; rcases hu with rfl | rfl | rfl | rfl | rfl | rfl | rfl | rfl | rfl <;> rfl) (by decide) (by unfold maxLen; omega) (by omega) (by have := HB1.out.size; simp; omega) _ rfl ?_
             intro g cp w3 hown3 hg3 hl3 hlt3
             have HO3 := Lib.hid hown3
             have HG3 := Lib.hid hg3
             have HL3 := Lib.hid hl3
             clear hown3 hg3 hl3))
        all_goals go_roundw
        case rel =>
          obtain ⟨r', hr'⟩ := cut_drop j k (D - 1) 40 HD.out g2
          have hb3 : Below w.heap.size w w3 := (below_a (below_nx HB.out HB1.out) _).grown HG3.out (by have := HB1.out.size; simp; omega) (fun r e => by have := owns_block HO.out e; omega)
          have hx1 : ∀ {B : Nat} {hh : Hd} {vv : Value}, B < w.heap.size + 2 → Nx wr B hh vv → Nx w3 B hh vv := fun hB hh => by
            have q := (hh.below HB1.out).alloc (.cells (h2.cells (.slice A1 (cutK E k').len c1)) 28)
            exact (HG3.out.block _ q.lt (fun e => by have := owns_block HO.out e.symm; omega)).trans q
          refine ⟨j + 1, xs ++ (h2.cells (.slice A1 (cutK E k').len c1)).toList, by go_num, g1, g2, .inl g3, HO3.out, ?_, hb3, hx1 (by omega) HX.out, hx1 (by omega) HZ.out⟩
          rw [take_app j _ hr', ← HH2.out, ← HE.out]
          have hR := HR.out
          rw [← HE.out] at hR
          exact rw_step HB1.out hR HO.out HK1.out HG3.out HL3.out (by omega) (by rw [HH2.out]; exact HU'.out)
        case measure => simp [intOf]; omega
      · have HF : Hid ((cutF k (D - 1) 40).take j = cutK D k) := Lib.hid (by
          rw [cutK]
          by_cases hD1 : D ≤ 1
          · have : j = 0 := by have := HJ.out; omega
            rw [if_pos hD1, this]; rfl
          · rw [if_neg hD1, show j = (cutF k (D - 1) 40).len by rw [cut_len]; omega, take_all])
        have f8 : wr.frozen? ⟨w.heap.size, 8, none⟩ = false := Bx.f HX.out 8
        obtain ⟨c0, c1, c2, c3, c4, c5, c6, c7, _⟩ := HX.out.nine
        obtain ⟨z0, z1, z2, z3, z4, z5, z6, z7, z8⟩ := HZ.out.nine
        have f0 : ∀ i, wr.frozen? ⟨w.heap.size + 1, i, none⟩ = false := Bx.f HZ.out
        have y0 := f0 0
        have y1 := f0 1
        have y2 := f0 2
        have y3 := f0 3
        have y4 := f0 4
        have y5 := f0 5
        have y6 := f0 6
        have y7 := f0 7
        have y8 := f0 8
        obtain ⟨g, cp, rfl⟩ : ∃ A5 c5, u5 = .slice A5 j c5 := by
          obtain ⟨_, ⟨h, h'⟩ | ⟨g, cap, cur, h, _⟩⟩ := HO.out
          · exact ⟨none, 0, by rw [h, h']⟩
          · exact ⟨_, _, h⟩
        clear f0
        have HY : Hid (Nx (setN (wr.setCell ⟨w.heap.size, 8, none⟩ (.slice g j cp)) (w.heap.size + 1) h1 (.slice g j cp)) (w.heap.size + 1) h1 (.slice g j cp) ∧ Below w.heap.size w (setN (wr.setCell ⟨w.heap.size, 8, none⟩ (.slice g j cp)) (w.heap.size + 1) h1 (.slice g j cp)) ∧ Kd (fun b => w.heap.size ≤ b) (setN (wr.setCell ⟨w.heap.size, 8, none⟩ (.slice g j cp)) (w.heap.size + 1) h1 (.slice g j cp)) (.slice g j cp) (cutK D k)) := Lib.hid (by
          refine ⟨Nx.setN (HZ.out.off (by omega)) _ _, below_setN (HB.out.setCell (p := ⟨w.heap.size, 8, none⟩) (Nat.le_refl _) _) (by omega) _ _, ?_⟩
          have hlen : (cutK D k).len = j := by
            rw [← HF.out, take_len]
            rw [cut_len]; omega
          have hR := HR.out
          rw [HF.out] at hR
          have hO := HO.out
          rw [← hlen] at hO
          have hk := kd_of_owns (P := fun b => w.heap.size + 2 ≤ b) hO (hR.mono fun b h1 _ => h1.1) (fun b h1 _ => (owns_block hO h1).1) (by omega)
          rw [hlen] at hk
          refine (hk.kept (by rw [size_setN, World.size_setCell]; exact Nat.le_refl _) fun b hb1 hb2 => ?_).mono fun b hb1 _ => Nat.le_trans (Nat.le_add_right _ 2) hb1
          have hb3 : w.heap.size + 2 ≤ b := hb1
          rw [setN_other (by omega)]
          exact Below.heap_setCell _ ⟨w.heap.size, 8, none⟩ _ b (by show b ≠ w.heap.size; omega))
        have HW : Hid (h1 = cutH h) := HH
        by_cases g1 : j < k.len
        · by_cases g2 : j < 40
          · have g3 : ¬ (1 : Int) < (D : Int) := by omega
            go_wp2_with fail
            refine bodyPost_ret (results_cell_row Tryz.results40 _ _ (w.heap.size + 1) 28 (h1.cells (.slice g j cp)) (0, 0) _ rfl HY.out.1 Tryz.underlying28 rfl sizeN) rfl ?_
            exact ⟨_, by rw [← HW.out]; rfl, HY.out.2.2, HY.out.2.1⟩
          · go_wp2_with fail
            refine bodyPost_ret (results_cell_row Tryz.results40 _ _ (w.heap.size + 1) 28 (h1.cells (.slice g j cp)) (0, 0) _ rfl HY.out.1 Tryz.underlying28 rfl sizeN) rfl ?_
            exact ⟨_, by rw [← HW.out]; rfl, HY.out.2.2, HY.out.2.1⟩
        · go_wp2_with fail
          refine bodyPost_ret (results_cell_row Tryz.results40 _ _ (w.heap.size + 1) 28 (h1.cells (.slice g j cp)) (0, 0) _ rfl HY.out.1 Tryz.underlying28 rfl sizeN) rfl ?_
          exact ⟨_, by rw [← HW.out]; rfl, HY.out.2.2, HY.out.2.1⟩
theorem Cut_calls (D : Nat) (k : Fo) (h : Hd) (v : Value) (w : World) (hD : D ≤ 18) (hk : Kd An w v k) (hu : h.u < 18446744073709551616) :
    Calls Tryz.prog 40 #[.agg (h.cells v), .int .i64 (D : Int)] w fun o w' => ∃ v', o = .returned (.agg ((cutH h).cells v')) ∧ Kd (fun b => w.heap.size ≤ b) w' v' (cutK D k) ∧ Below w.heap.size w w' :=
  Cut_any (D + 1) D k h v w (by omega) hD hk hu
end Go.Proofs.YtppapkpceejnkaaGreatDoor
