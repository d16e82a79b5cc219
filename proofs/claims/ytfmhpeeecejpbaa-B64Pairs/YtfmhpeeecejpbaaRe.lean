/- The walk of read. -/
import Derived.Test.YtfmhpeeecejpbaaRe1
namespace Go.Proofs.Ytfmhpeeecejpbaa
open Go.RowKit Go.Shelf

attribute [local go_sem] Oper.semAt_some

theorem nums_nat {wd : Nat} {g : Nat → Nat} (hw : wd ≤ 6) : ∀ l : List UInt8, allL wd g l = true → (numsL g l).map (·.toNat) = l.map fun c => g c.toNat
  | [], _ => rfl
  | a :: l, h => by
    simp only [allL, List.all_cons, Bool.and_eq_true, decide_eq_true_eq] at h
    have h64 : 2 ^ wd ≤ 2 ^ 6 := Nat.pow_le_pow_right (by decide) hw
    have ih := nums_nat hw l h.2
    simp only [numsL, List.map_cons] at ih ⊢
    rw [u8_nat _ (by omega), ih]
theorem nums_lt {wd : Nat} {g : Nat → Nat} (l : List UInt8) (h : allL wd g l = true) : ∀ x ∈ (l.map fun c => g c.toNat), x < 2 ^ wd := by
  intro x hx
  obtain ⟨c, hc, rfl⟩ := List.mem_map.1 hx
  have := List.all_eq_true.1 h c hc
  simpa using this
theorem below_of {B : Nat} {w w' : World} (h : Below B w w') {n : Nat} (hn : n ≤ B) : Below n w w' := h.mono hn

set_option maxRecDepth 100000 in
set_option maxHeartbeats 1000000 in
theorem read_calls (wd : Nat) (f g : Nat → Nat) (A : Array Value) (hA : Alph wd f A) (hBk : Back wd f g) (s : ByteArray) (w : World) :
    Calls Try.prog 23 #[.agg A, .string s] w (RePost wd g s w) := by
  obtain ⟨C, hC⟩ : ∃ C, C = (400 * 8 + wd - 1) / wd := ⟨_, rfl⟩
  have hC1 : C ≤ 1000 := by
    have h1 := hA.pos
    have h2 := hA.le
    rw [hC]
    have : (400 * 8 + wd - 1) / wd < 1001 := by rw [Nat.div_lt_iff_lt_mul (by omega)]; omega
    omega
  have LF := fun W => lettersFor_calls wd f A hA 400 (by omega) W
  rw [← hC] at LF
  have HLF := Lib.hid LF
  have HA := Lib.hid hA
  have HBk := Lib.hid hBk
  have HC := Lib.hid hC
  clear hA hC LF hBk
  have hb := box_alph w A
  have hmx : Try.prog.follows .mixedOrders = true := by kernel_rfl
  by_cases hs : s.size ≤ C
  · have hd : ¬ (C : Int) < (s.size : Int) := by omega
    have hd2 : decide ((C : Int) < (s.size : Int)) = false := by simpa using hd
    refine (callsIn_wide (n := 5)).1 ?_
    refine callsIn_of_wp_marks Try.func23 rfl trivial ?_ rfl
    simp only [Try.ntmps23, List.size_toArray, List.length_cons, List.length_nil, Nat.reduceAdd, Nat.reduceSub, Array.replicate_succ, Array.replicate_zero, List.push_toArray, List.append_toArray, List.nil_append, List.cons_append]
    refine wpIn_wide.2 ?_
    go_wp2_with (first | (refine wpList_load_row rfl 32 _ rfl w.heap.size rfl 32 A (0, 0) _ (heap_alloc_last w _) Try.underlying32 rfl (by rw [size32, HA.out.size]) ?_) | (refine wpList_load_row rfl 32 _ rfl w.heap.size rfl 32 A (0, 0) _ (heap_alloc2_old w _ _) Try.underlying32 rfl (by rw [size32, HA.out.size]) ?_) | (go_at_call 26; refine (HLF.out _).mono ?_; rintro e w' ⟨rfl, rfl⟩))
    have hsz : ((w.alloc (.cells A 32)).alloc (.cells A 32)).heap.size = w.heap.size + 2 := by simp
    have hBw : Below w.heap.size w ((w.alloc (.cells A 32)).alloc (.cells A 32)) := ((Below.refl _ w).alloc (Nat.le_refl _) _).alloc (by simp) _
    have hAw : AtA ((w.alloc (.cells A 32)).alloc (.cells A 32)) w.heap.size A := heap_alloc2_old w _ _
    refine (numbers_calls wd f g A HA.out HBk.out s _ (by omega)).mono ?_
    rintro e W2 (⟨hall, b, cap, rfl, hown, hb2⟩ | ⟨hall, rfl, hb2⟩)
    · rw [hsz] at hown hb2
      have hAt2 : AtA W2 w.heap.size A := (hb2.block _ (by omega)).trans hAw
      have hB2 : Below w.heap.size w W2 := hBw.trans (hb2.mono (by omega))
      have hcw2 : W2.cell? ⟨w.heap.size, 0, none⟩ = some (.int .u64 (wd : Int)) := (hAt2.cell 0).trans HA.out.width
      have hmk := fun W => run_make_bytes W s.size (by omega)
      have HOwn := Lib.hid hown
      have HAt2 := Lib.hid hAt2
      have HB2 := Lib.hid hB2
      have HAll := Lib.hid hall
      have hW2 : w.heap.size < W2.heap.size := hAt2.lt
      clear hall hown hb2 hAt2 hB2 hsz hBw hAw hb
      go_wp2_with fail
      obtain ⟨L, hL⟩ : ∃ L, L = s.data.toList.map fun c => g c.toNat := ⟨_, rfl⟩
      have hLl : L.length = s.size := by rw [hL, List.length_map, size_data]
      have hLn : L = (numsL g s.data.toList).map (·.toNat) := by rw [nums_nat HA.out.le _ HAll.out, hL]
      have hnl : (numsL g s.data.toList).length = s.size := by rw [numsL, List.length_map, size_data]
      have hLb : ∀ x ∈ L, x < 2 ^ wd := by rw [hL]; exact nums_lt _ HAll.out
      refine (callsIn_wide.1 (digits_in 5 _ _ _ (some ⟨b, 0, none⟩) s.size cap rfl)).mono ?_
      rintro e W7 ⟨rfl, h7⟩
      rw [← hLl] at h7
      have HL := Lib.hid (laidR w W2 A wd w.heap.size b cap L.length (numsL g s.data.toList) L hLn (by omega) rfl HB2.out HAt2.out (by rw [hnl]; exact HOwn.out) W7 (by simpa using h7))
      have HLl := Lib.hid hLl
      have HLb := Lib.hid hLb
      have HLe := Lib.hid hL
      clear h7 hL hLl hLn hnl hLb hmk hcw2 HOwn HAt2 HB2
      simp only [World.size_alloc]
      obtain ⟨n0, hn0⟩ : ∃ n0, n0 = W2.heap.size := ⟨_, rfl⟩
      simp only [← hn0, Nat.add_assoc, Nat.reduceAdd] at HL hW2 ⊢
      clear hn0
      go_wp2
      refine (wpIn_wide (n := 5)).1 ?_
      have H7s := Lib.hid HL.out.size
      have hbl := HL.out.bl
      have hwl := HA.out.le
      have hwp := HA.out.pos
      refine range_turns (α := NX 8) (N := 3 * L.length) (B := n0) (by omega) (gf := 30) (lb := #[.pointer (some ⟨n0 + 4, 0, none⟩), .pointer (some ⟨n0 + 3, 0, none⟩)]) rfl (enters_of Try.func30 (by kernel_rfl) rfl)
        (encs := fun x => #[.int .u8 (x.1 : Int)]) (Kp := Kpt (fun k => (k = b ∨ k = n0 + 3 ∨ k = n0 + 4) ∨ k = n0)) (S := fun xs => xs.map (·.1) = (foldR wd 8 L).1) (T := fun W => Rdr W n0 wd 8 (foldR wd 8 L).2.1 (foldR wd 8 L).2.2)
        (by rw [H7s.out]; omega)
        (fun l J W hW hJ hY h0 => ?hit) Kpt.trans ?book (fun _ => rfl)
        (fun pre W => OutB W (n0 + 2) w.heap.size (FxR w.heap.size n0 b) (pre.map fun x => UInt8.ofNat x.1) ∧ AtA W w.heap.size A ∧ Below w.heap.size w W ∧ n0 + 5 ≤ W.heap.size)
        ?own ?turn ?fin ⟨HL.out.out, HL.out.alph, HL.out.below, by rw [H7s.out]; omega⟩ ?a1 ?assign ?body ?done
      case hit =>
        refine (dg1_in 4 (by decide) l (n0 + 4) (n0 + 3) n0 b 0 cap wd 8 (fun k => k = b ∨ k = n0 + 3 ∨ k = n0 + 4) L (by rw [HLl.out]; omega) (by omega) (by decide) (by decide) HLb.out (.inl rfl) (.inr (.inr rfl)) (.inr (.inl rfl)) (by omega) J hY hJ W ?_ ?_ ?_ ?_ ?_ h0).mono ?_
        · intro k hk
          have h1 := hW.size
          rw [H7s.out] at h1
          omega
        · exact (hW.cell (p := ⟨n0 + 4, 0, none⟩) (by simp only; rw [H7s.out]; omega)).trans HL.out.num.cell
        · exact (hW.cell (p := ⟨n0 + 3, 0, none⟩) (by simp only; rw [H7s.out]; omega)).trans HL.out.ptr.cell
        · intro j hj
          exact (hW.cell (p := ⟨b, 0 + j, none⟩) (by simp only; rw [H7s.out]; omega)).trans (HL.out.cell j hj)
        · exact HL.out.rdr.same (hW.block _ (by rw [H7s.out]; omega))
        · rintro e W' ⟨h1, ys, h2, h3, h4⟩
          exact ⟨h1, ys, h2, h3, h4⟩
      case book =>
        intro W l o o' hl _ _ _
        rw [H7s.out] at hl
        exact ⟨by simp [World.putObj], fun k hk => World.putObj_heap_other (by omega)⟩
      case own =>
        exact OwnFrom.and (Own.from (outB_own _ _ _ _) _) (OwnFrom.and atA_own (OwnFrom.and (ownFrom_below (Nat.le_refl _) (by rw [H7s.out]; omega)) (fun _ _ _ _ h hg _ => Nat.le_trans h hg.size)))
      case turn =>
        rintro pre X X' ⟨h1, h2, h3, h4⟩ hg
        exact ⟨h1.grown hg (by omega) (.inr (.inl rfl)), (hg.block _ h2.lt (by intro e; have := Option.some.inj e; omega)).trans h2, h3.grown hg h3.size (fun k e => by have := Option.some.inj e; omega), Nat.le_trans h4 hg.size⟩
      case fin =>
        intro W l o' hl hT
        rw [H7s.out] at hl
        exact hT.same (World.putObj_heap_other (by omega))
      case assign =>
        intro l x W K hK
        gi_wp2
        exact hK
      case body =>
        rintro l pre x W ⟨⟨v, hbv, hown, hv⟩, hAt, hB, hWs⟩ hlen
        have hx8 : x.1 < 256 := x.2
        obtain ⟨X, hX⟩ : ∃ X, X = pre.map fun x => UInt8.ofNat x.1 := ⟨_, rfl⟩
        rw [← hX] at hown
        have hXl : X.length ≤ 3000 := by rw [hX, List.length_map]; have := HLl.out; omega
        obtain ⟨g', cap', w', hrun, hb1, hout, hko, hkp, hbl2⟩ := app_run W (W.alloc (.cells #[.int .u8 (x.1 : Int)] 5)) v (n0 + 2) w.heap.size (FxR w.heap.size n0 b) X (UInt8.ofNat x.1) (x.1 : Int) (by rw [u8_nat _ (by omega)]) hXl (by omega) (by omega) (by intro k hk; unfold FxR at hk; omega) hbv hown hv (grown_drewN _ 0 none) (by simp)
        have hcv := hbv.cell
        have hcv2 := (hbv.alloc (.cells #[.int .u8 (x.1 : Int)] 5)).cell
        have hcb1 := hb1.cell
        have hfb1 := hb1.frozen
        have HFin := Lib.hid (show KeepsFrom W7.heap.size W (w'.setCell ⟨n0 + 2, 0, none⟩ (.slice (some ⟨g', 0, none⟩) (X.length + 1) cap')) ∧ Kpt (fun k => (k = b ∨ k = n0 + 3 ∨ k = n0 + 4) ∨ k = n0) W (w'.setCell ⟨n0 + 2, 0, none⟩ (.slice (some ⟨g', 0, none⟩) (X.length + 1) cap')) ∧
          OutB (w'.setCell ⟨n0 + 2, 0, none⟩ (.slice (some ⟨g', 0, none⟩) (X.length + 1) cap')) (n0 + 2) w.heap.size (FxR w.heap.size n0 b) ((pre ++ [x]).map fun x => UInt8.ofNat x.1) ∧
          AtA (w'.setCell ⟨n0 + 2, 0, none⟩ (.slice (some ⟨g', 0, none⟩) (X.length + 1) cap')) w.heap.size A ∧ Below w.heap.size w (w'.setCell ⟨n0 + 2, 0, none⟩ (.slice (some ⟨g', 0, none⟩) (X.length + 1) cap')) ∧ n0 + 5 ≤ (w'.setCell ⟨n0 + 2, 0, none⟩ (.slice (some ⟨g', 0, none⟩) (X.length + 1) cap')).heap.size from
          ⟨hko.from _, ⟨hkp.1, fun k hk => hkp.2 k (by unfold FxR; omega)⟩, by rw [List.map_append, List.map_singleton, ← hX]; exact hout, (hkp.2 _ (.inl rfl)).trans hAt, hB.trans hbl2, Nat.le_trans hWs hkp.1⟩)
        clear hX hout hko hkp hbl2 hbv hown hAt hB hb1 hv
        gi_wp2_with (gi_at_builtin; refine wpListIn_append_run (v := v) (u := .slice (some ⟨W.heap.size, 0, none⟩) 1 1) rfl rfl rfl rfl hrun ?_)
        exact HFin.out
      case done =>
        rintro D xs W hD hxs ⟨hO, hAt, hB, hWs⟩ hT hK
        rw [H7s.out] at hD
        obtain ⟨S, hS⟩ : ∃ S, S = foldR wd 8 L := ⟨_, rfl⟩
        rw [← hS] at hxs hT
        obtain ⟨Z, hZ⟩ : ∃ Z, Z = xs.map (fun x => UInt8.ofNat x.1) := ⟨_, rfl⟩
        have hZ2 : Z = S.1.map UInt8.ofNat := by rw [hZ, ← hxs, List.map_map]; rfl
        rw [← hZ] at hO
        have hSe := hS
        rw [HLe.out] at hSe
        have HSe := Lib.hid hSe
        have HZ2 := Lib.hid hZ2
        obtain ⟨v, hbv, hown, hv⟩ := hO
        have hcv := hbv.cell
        have hcon := conv_own hown
        have hct := hT.count
        have hhe := hT.held
        have hcw : W.cell? ⟨w.heap.size, 0, none⟩ = some (.int .u64 (wd : Int)) := (hAt.cell 0).trans HA.out.width
        have HB := Lib.hid hB
        have HKd := Lib.hid hK
        clear hS hSe hZ hZ2 hxs hbv hown hv hT hAt hB hK
        by_cases hc : S.2.2 < wd
        · have hc1 : ¬ wd ≤ S.2.2 := by omega
          by_cases hh : S.2.1 = 0
          · have hh1 : ((S.2.1 : Int) != 0) = false := by rw [hh]; rfl
            have HH := Lib.hid hh
            clear hh
            go_wp2
            refine ⟨by simp, .inl ⟨_, _, rfl, run_takeDeferred HKd.out, ?_⟩⟩
            refine ⟨_, results_tmp2 rfl _ _ _, ?_⟩
            refine .inl ⟨⟨⟨by rw [← show C = (3200 + wd - 1) / wd from HC.out]; exact hs, HAll.out⟩, by rw [← HSe.out]; exact hc, by rw [← HSe.out]; exact HH.out⟩, ?_, HB.out.trans (belowK_b (w := w) (Nat.le_refl _) _ D _ _ (by omega) HKd.out rfl rfl)⟩
            rw [← HSe.out, ← HZ2.out]
            rfl
          · have hh1 : ((S.2.1 : Int) != 0) = true := by simpa using hh
            go_wp2
            refine ⟨by simp, .inl ⟨_, _, rfl, run_takeDeferred HKd.out, ?_⟩⟩
            refine ⟨_, results_tmp2 rfl _ _ _, ?_⟩
            exact .inr ⟨fun h => hh (by rw [HSe.out]; exact h.2.2), rfl, HB.out.trans (belowK_b (w := w) (Nat.le_refl _) _ D _ _ (by omega) HKd.out rfl rfl)⟩
        · have hc1 : wd ≤ S.2.2 := by omega
          go_wp2
          refine ⟨by simp, .inl ⟨_, _, rfl, run_takeDeferred HKd.out, ?_⟩⟩
          refine ⟨_, results_tmp2 rfl _ _ _, ?_⟩
          exact .inr ⟨fun h => hc (by rw [HSe.out]; exact h.2.1), rfl, HB.out.trans (belowK_b (w := w) (Nat.le_refl _) _ D _ _ (by omega) HKd.out rfl rfl)⟩
    · have HB2 := Lib.hid (hBw.trans (hb2.mono (by rw [hsz]; omega)))
      have HAll := Lib.hid hall
      clear hall hb2 hsz hBw hAw hb
      go_wp2
      refine ⟨_, results_tmp2 rfl _ _ _, ?_⟩
      exact .inr ⟨fun h => by have h1 := h.1.2; rw [HAll.out] at h1; exact Bool.noConfusion h1, rfl, HB2.out⟩
  · have hd2 : decide ((C : Int) < (s.size : Int)) = true := by simp; omega
    go_enter Try.func23, Try.ntmps23
    go_wp2_with (first | (refine wpList_load_row rfl 32 _ rfl w.heap.size rfl 32 A (0, 0) _ (heap_alloc_last w _) Try.underlying32 rfl (by rw [size32, HA.out.size]) ?_) | (go_at_call 26; refine (HLF.out _).mono ?_; rintro e w' ⟨rfl, rfl⟩))
    go_ret2
    exact .inr ⟨fun h => hs (by rw [HC.out]; exact h.1.1), rfl, ((Below.refl _ w).alloc (Nat.le_refl _) _).alloc (by simp) _⟩
end Go.Proofs.Ytfmhpeeecejpbaa
