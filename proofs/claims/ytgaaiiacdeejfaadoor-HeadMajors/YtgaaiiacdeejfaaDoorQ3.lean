/- The program's own: shortest. -/
import Derived.Test.YtgaaiiacdeejfaaDoorQ2
namespace Go.Proofs.YtgaaiiacdeejfaaDoor
open Go.RowKit Go.Shelf

attribute [local go_sem] Oper.semAt_some

theorem of_room {x : Fin 4} {n a : Nat} (hn : 256 ^ (szB x).toNat = n) : (room x a = true ↔ a < n) := by rw [room, hn, decide_eq_true_eq]
theorem of_noroom {x : Fin 4} {n a : Nat} (hn : 256 ^ (szB x).toNat = n) (h : room x a = false) : ¬ a < n := by
  intro h2
  rw [(of_room hn).2 h2] at h
  cases h
theorem room_of {a : Nat} (h24 : 24 ≤ a) {pre ini : List (Fin 4)} {x : Fin 4} (hpre : preS pre) (he : pre = ini ++ [x]) (hs : room x a = true) (hn : ∀ y ∈ ini, room y a = false) : szI x = (hinfo a : Int) ∧ szB x = (hext a : Int) := by
  rcases hpre with rfl | rfl | rfl | rfl
  · obtain ⟨rfl, h2⟩ := List.append_inj' (show [] ++ [(0 : Fin 4)] = ini ++ [x] from he) rfl
    cases h2
    have h0 := (of_room (n := 256) (by decide)).1 hs
    have e1 : hinfo a = 24 := by unfold hinfo; (repeat' split) <;> omega
    have e2 : hext a = 1 := by unfold hext; (repeat' split) <;> omega
    rw [e1, e2]; exact ⟨rfl, rfl⟩
  · obtain ⟨rfl, h2⟩ := List.append_inj' (show [(0 : Fin 4)] ++ [1] = ini ++ [x] from he) rfl
    cases h2
    have h0 := (of_room (n := 65536) (by decide)).1 hs
    have h1 := of_noroom (n := 256) (by decide) (hn 0 (by simp))
    have e1 : hinfo a = 25 := by unfold hinfo; (repeat' split) <;> omega
    have e2 : hext a = 2 := by unfold hext; (repeat' split) <;> omega
    rw [e1, e2]; exact ⟨rfl, rfl⟩
  · obtain ⟨rfl, h2⟩ := List.append_inj' (show [(0 : Fin 4), 1] ++ [2] = ini ++ [x] from he) rfl
    cases h2
    have h0 := (of_room (n := 4294967296) (by decide)).1 hs
    have h1 := of_noroom (n := 256) (by decide) (hn 0 (by simp))
    have h2 := of_noroom (n := 65536) (by decide) (hn 1 (by simp))
    have e1 : hinfo a = 26 := by unfold hinfo; (repeat' split) <;> omega
    have e2 : hext a = 4 := by unfold hext; (repeat' split) <;> omega
    rw [e1, e2]; exact ⟨rfl, rfl⟩
  · obtain ⟨rfl, h2⟩ := List.append_inj' (show [(0 : Fin 4), 1, 2] ++ [3] = ini ++ [x] from he) rfl
    cases h2
    have h1 := of_noroom (n := 256) (by decide) (hn 0 (by simp))
    have h2 := of_noroom (n := 65536) (by decide) (hn 1 (by simp))
    have h3 := of_noroom (n := 4294967296) (by decide) (hn 2 (by simp))
    have e1 : hinfo a = 27 := by unfold hinfo; (repeat' split) <;> omega
    have e2 : hext a = 8 := by unfold hext; (repeat' split) <;> omega
    rw [e1, e2]; exact ⟨rfl, rfl⟩
theorem has_room {a : Nat} (ha : a < 18446744073709551616) : room 3 a = true := (of_room (n := 18446744073709551616) (by decide)).2 ha

set_option maxRecDepth 100000 in
set_option maxHeartbeats 600000 in
theorem shortest_small (a : Nat) (w : World) (ha : a < 24) : Calls Tryd.prog 20 #[.int .u64 (a : Int)] w fun o w' => o = .returned (.agg #[.int .i64 (a : Int), .int .i64 0]) ∧ Below w.heap.size w w' := by
  go_enter Tryd.func20, Tryd.ntmps20
  go_wp2
  refine wp_scope_straight ?_
  go_wp2
  refine ⟨by simp, ?_⟩
  refine ⟨.agg #[.int .i64 (a : Int), .int .i64 0], by simp [results, Tryd.results20, go_sem], ?_⟩
  exact ⟨rfl, below_al (below_al (Below.refl _ _) _) _⟩

set_option maxRecDepth 100000 in
set_option maxHeartbeats 600000 in
theorem shortest_big (a : Nat) (w : World) (h24 : 24 ≤ a) (ha : a < 18446744073709551616) (hT : SizT w) : Calls Tryd.prog 20 #[.int .u64 (a : Int)] w fun o w' => o = .returned (.agg #[.int .i64 (hinfo a : Int), .int .i64 (hext a : Int)]) ∧ Below w.heap.size w w' := by
  have HT := Lib.hid hT
  have HU := Lib.hid (fun x W => hasRoom_calls x a W)
  have HR3 := Lib.hid (has_room ha)
  have H24 := Lib.hid h24
  have hd : decide ((a : Int) < 24) = false := by simp; omega
  clear hT h24 ha
  refine (callsIn_wide (n := 5)).1 ?_
  refine callsIn_of_wp_marks Tryd.func20 rfl trivial ?_ rfl
  simp only [Tryd.ntmps20, List.size_toArray, List.length_cons, List.length_nil, Nat.reduceAdd, Nat.reduceSub, Array.replicate_succ, Array.replicate_zero, List.push_toArray, List.append_toArray, List.nil_append, List.cons_append]
  gi_wp2
  refine scope_in ?_
  gi_wp2
  refine label_in ?_
  gi_wp2_with (refine ⟨trivial, ?_⟩; gi_at_call 29; refine (sizs_in _ _).mono ?_; rintro o w1 ⟨rfl, rfl⟩)
  obtain ⟨W0, hW0⟩ : ∃ W0, W0 = ((w.alloc (.cells #[.int .u64 (a : Int)] 22)).alloc (.cells #[.int .i64 0, .int .i64 0] 41)).alloc (.cells #[.int .i64 0, .int .i64 0] 41) := ⟨_, rfl⟩
  have a1 : At W0 w.heap.size #[.int .u64 (a : Int)] 22 := by
    rw [hW0]; exact ((At.new w _ _).alloc _).alloc _
  have a2 : At W0 (w.heap.size + 1) #[.int .i64 0, .int .i64 0] 41 := by
    rw [hW0]; exact (At.new1 w _ _ _).alloc _
  have a3 : At W0 (w.heap.size + 1 + 1) #[.int .i64 0, .int .i64 0] 41 := by
    rw [hW0]; exact At.new2 w _ _ _ _
  have hB0 : Below w.heap.size w W0 := by rw [hW0]; exact below_al (below_al (below_al (Below.refl _ w) _) _) _
  have hs0 : W0.heap.size = w.heap.size + 3 := by rw [hW0]; simp
  rw [← hW0]
  have HS0 := Lib.hid hs0
  have HT0 := Lib.hid (HT.out.below hB0)
  clear hW0 hs0
  refine wpIn_rangeFunc_ownH rfl (by omega) (gf := 31) (lb := #[]) rfl trivial (enters_of Tryd.func31 (by kernel_rfl) rfl)
    (sizs_stops (5 - 1) (by omega) _ HT0.out) KeepsWalks.trans (fun W l o o' _ h _ hw => KeepsWalks.putObj o' h hw) (Below.refl _ _) (fun _ => rfl)
    (fun pre W => (((∀ y ∈ pre, room y a = false) ∧ At W w.heap.size #[.int .u64 (a : Int)] 22) ∧ At W (w.heap.size + 1) #[.int .i64 0, .int .i64 0] 41 ∧ At W (w.heap.size + 1 + 1) #[.int .i64 0, .int .i64 0] 41) ∧ Below w.heap.size w W)
    (fun c pre W => (c = .exit 0 ∧ ∃ (ini : List (Fin 4)) (x : Fin 4), pre = ini ++ [x] ∧ room x a = true ∧ (∀ y ∈ ini, room y a = false) ∧ At W (w.heap.size + 1) #[.int .i64 0, .int .i64 0] 41 ∧ At W (w.heap.size + 1 + 1) #[.int .i64 (szI x), .int .i64 (szB x)] 41) ∧ Below w.heap.size w W)
    (OwnFrom.and (OwnFrom.and (OwnFrom.and (ownFrom_pure _ _) (Own.from (at_own _ _ _) _)) (OwnFrom.and (Own.from (at_own _ _ _) _) (Own.from (at_own _ _ _) _))) (ownFrom_below (Nat.le_refl _) (by rw [HS0.out]; omega)))
    (fun c => OwnFrom.and (fun _ _ _ _ hs hg hr => by
      obtain ⟨h1, ini, x, h2, h3, h4, h5, h6⟩ := hs
      exact ⟨h1, ini, x, h2, h3, h4, at_kept h5 hg (fun r e => (hr r e).2), at_kept h6 hg (fun r e => (hr r e).2)⟩) (ownFrom_below (Nat.le_refl _) (by rw [HS0.out]; omega)))
    ⟨⟨⟨by simp, a1⟩, a2, a3⟩, hB0⟩
    (fun x a' W => ∃ C, w.heap.size + 3 ≤ C ∧ At W C #[.int .i64 (szI x), .int .i64 (szB x)] 41 ∧ a' = { tmps := #[.int .u64 (a : Int), .pointer (some ⟨w.heap.size, 0, none⟩), .pointer (some ⟨w.heap.size + 1, 0, none⟩), .pointer (some ⟨w.heap.size + 1 + 1, 0, none⟩), .pointer (some ⟨C, 0, none⟩), .int .u64 (a : Int), .bool false, undef, undef, undef, .func (.func 31) #[] #[], .agg #[.int .i64 (szI x), .int .i64 (szB x)], undef, undef, undef, undef, undef], defers := [] })
    (fun x a' _ _ _ _ hs hg hr => by
      obtain ⟨C, h1, h2, h3⟩ := hs
      exact ⟨C, h1, at_kept h2 hg (fun r e => (hr r e).2), h3⟩)
    ?_ ?_ ?_ ?_
  · intro l pre x W K hI hK
    have hz : w.heap.size + 3 ≤ W.heap.size := by have := hI.1.2.2.lt; omega
    have HI := Lib.hid hI
    have HK := Lib.hid hK
    clear hI hK a1 a2 a3 hB0
    simp only [szV]
    gi_wp2
    obtain ⟨⟨⟨i1, i2⟩, i3, i4⟩, i6⟩ := HI.out
    exact HK.out _ _ ((KeepsOthers.alloc _ _).from _) (KeepsWalks.alloc _ _) ⟨⟨⟨i1, i2.alloc _⟩, i3.alloc _, i4.alloc _⟩, below_al i6 _⟩ ⟨_, hz, At.new _ _ _, rfl⟩
  · rintro l pre x a' W hl hlo ⟨⟨⟨i1, i2⟩, i3, i4⟩, i6⟩ ⟨C, hC, h2, rfl⟩ hlen
    have HI1 := Lib.hid i1
    have HI2 := Lib.hid i2
    have HI3 := Lib.hid i3
    have HI4 := Lib.hid i4
    have HI6 := Lib.hid i6
    have HC := Lib.hid h2
    have HUx := Lib.hid (HU.out x)
    have c0 := i2.c 0 rfl
    have d0 := h2.c 0 rfl
    have d1 := h2.c 1 rfl
    obtain ⟨R, hR⟩ : ∃ R, room x a = R := ⟨_, rfl⟩
    rw [hR] at HUx
    have HR := Lib.hid hR
    clear i1 i2 i3 i4 i6 h2 a1 a2 a3 hB0 hlo hR
    cases R with
    | false =>
      gi_wp2_with (refine ⟨trivial, ?_⟩; gi_at_call 30; refine (callsIn_wide.2 (HUx.out _)).mono ?_; rintro o w2 ⟨rfl, hb2⟩; have HB2 := Lib.hid hb2; clear hb2)
      refine ⟨(keepsO_below HB2.out).from _, (keepsO_below HB2.out).walks, ⟨⟨?_, HI2.out.below HB2.out⟩, HI3.out.below HB2.out, HI4.out.below HB2.out⟩, HI6.out.trans (HB2.out.mono HI6.out.size)⟩
      intro y hy
      rcases List.mem_append.1 hy with h | h
      · exact HI1.out y h
      · simp at h; subst h; exact HR.out
    | true =>
      gi_wp2_with (refine ⟨trivial, ?_⟩; gi_at_call 30; refine (callsIn_wide.2 (HUx.out _)).mono ?_; rintro o w2 ⟨rfl, hb2⟩; have HB2 := Lib.hid hb2; have d0 := (HC.out.below hb2).c 0 rfl; have d1 := (HC.out.below hb2).c 1 rfl; have g0 := (HI4.out.below hb2).c 0 rfl; have g1 := (HI4.out.below hb2).c 1 rfl; have f0 := (HI4.out.below hb2).f 0; have f1 := (HI4.out.below hb2).f 1; have z4 := (HI4.out.below hb2).lt; clear hb2)
      refine ⟨(((keepsO_below HB2.out).trans (KeepsOthers.setCell _ _ _)).trans (KeepsOthers.setCell _ _ _)).from _, ⟨rfl, pre, x, rfl, HR.out, HI1.out, ?_, (HI4.out.below HB2.out).set2 _ _⟩, below2 (HI6.out.trans (HB2.out.mono HI6.out.size)) (by omega) _ _⟩
      exact ((HI3.out.below HB2.out).off (by omega)).off (by omega)
  · rintro D ys W hD rfl ⟨⟨⟨i1, i2⟩, i3, i4⟩, i6⟩ hK
    have := i1 3 (by simp)
    rw [HR3.out] at this
    cases this
  · rintro D c pre W hD hpre ⟨⟨rfl, ini, x, h1, h2, h3, i3, i4⟩, i6⟩ hK
    have HN := Lib.hid (room_of H24.out hpre h1 h2 h3)
    have HI3 := Lib.hid i3
    have HI6 := Lib.hid i6
    have HK := Lib.hid hK
    have g0 := i4.c 0 rfl
    have g1 := i4.c 1 rfl
    have r0 := i3.c 0 rfl
    have r1 := i3.c 1 rfl
    have f0 := i3.f 0
    have f1 := i3.f 1
    have z3 := i3.lt
    clear h1 h2 h3 hpre i3 i4 i6 hK a1 a2 a3 hB0
    gi_wp2
    have hd : D ≠ w.heap.size + 1 := by have := HS0.out; omega
    have HR := Lib.hid (show At ((W.setCell ⟨w.heap.size + 1, 0, none⟩ (.int .i64 (szI x))).setCell ⟨w.heap.size + 1, 1, none⟩ (.int .i64 (szB x))) (w.heap.size + 1) #[.int .i64 (szI x), .int .i64 (szB x)] 41 from At.set2 (W := W) HI3.out _ _)
    have HB := Lib.hid (below2 HI6.out (B := w.heap.size + 1) (by omega) (.int .i64 (szI x)) (.int .i64 (szB x)))
    have HD := Lib.hid (show ((W.setCell ⟨w.heap.size + 1, 0, none⟩ (.int .i64 (szI x))).setCell ⟨w.heap.size + 1, 1, none⟩ (.int .i64 (szB x))).heap[D]? = some (.deferred (some [])) from
      (heap_setCell_other _ ⟨w.heap.size + 1, 1, none⟩ D _ hd).trans ((heap_setCell_other _ ⟨w.heap.size + 1, 0, none⟩ D _ hd).trans HK.out))
    obtain ⟨WX, hWX⟩ : ∃ WX, WX = (W.setCell ⟨w.heap.size + 1, 0, none⟩ (.int .i64 (szI x))).setCell ⟨w.heap.size + 1, 1, none⟩ (.int .i64 (szB x)) := ⟨_, rfl⟩
    rw [← hWX] at HR HB HD ⊢
    clear hWX hd r0 r1 f0 f1 z3
    refine ⟨by simp, .inl ⟨_, _, rfl, run_takeDeferred HD.out, ?_⟩⟩
    have q := HR.out.putObj (.deferred none) HD.out rfl
    have q0 := q.c 0 rfl
    have q1 := q.c 1 rfl
    refine ⟨.agg #[.int .i64 (szI x), .int .i64 (szB x)], by simp [results, Tryd.results20, go_sem, q0, q1], ?_⟩
    exact ⟨by rw [HN.out.1, HN.out.2], HB.out.trans (belowK_b (w := w) (Nat.le_refl _) _ D _ _ (by have := HS0.out; omega) HD.out rfl rfl)⟩
theorem shortest_calls (a : Nat) (w : World) (ha : a < 18446744073709551616) (hT : SizT w) : Calls Tryd.prog 20 #[.int .u64 (a : Int)] w fun o w' => o = .returned (.agg #[.int .i64 (hinfo a : Int), .int .i64 (hext a : Int)]) ∧ Below w.heap.size w w' := by
  by_cases h : a < 24
  · have e1 : hinfo a = a := by rw [hinfo, if_pos h]
    have e2 : hext a = 0 := by rw [hext, if_pos h]
    rw [e1, e2]
    exact shortest_small a w h
  · exact shortest_big a w (by omega) ha hT
end Go.Proofs.YtgaaiiacdeejfaaDoor
