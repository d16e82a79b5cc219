/- The program's own: shortest. The program's own: told. The program's own: split. The program's own: argument. -/
import Derived.Test.YtppapkpceejnkaaGreatDoorZa
import Derived.Deep.RegionHeld3
import Derived.Lib.ConvBytes
namespace Go.Proofs.YtppapkpceejnkaaGreatDoor
open Go.RowKit Go.Shelf

attribute [local go_sem] Oper.semAt_some

theorem of_room {x : Fin 4} {n a : Nat} (hn : 256 ^ (szB x).toNat = n) : (room x a = true ↔ a < n) := by rw [room, hn, decide_eq_true_eq]
theorem of_noroom {x : Fin 4} {n a : Nat} (hn : 256 ^ (szB x).toNat = n) (h : room x a = false) : ¬ a < n := by
  intro h2
  rw [(of_room hn).2 h2] at h
  cases h
theorem room_of {a : Nat} (h24 : 24 ≤ a) {pre ini : List (Fin 4)} {x : Fin 4} (hpre : preS pre) (he : pre = ini ++ [x]) (hs : room x a = true) (hn : ∀ y ∈ ini, room y a = false) : szI x = (hinfo a : Int) ∧ szB x = (hext a : Int) := by
  rcases hpre with rfl | rfl | rfl | rfl
  · obtain ⟨rfl, h2⟩ := List.append_inj' (show [] ++ [(0 : Fin 4)] = ini ++ [x] from he) rfl
    cases h2
    have h0 := (of_room (n := 256) (by decide)).1 hs
    have e1 : hinfo a = 24 := by unfold hinfo; (repeat' split) <;> omega
    have e2 : hext a = 1 := by unfold hext; (repeat' split) <;> omega
    rw [e1, e2]; exact ⟨rfl, rfl⟩
  · obtain ⟨rfl, h2⟩ := List.append_inj' (show [(0 : Fin 4)] ++ [1] = ini ++ [x] from he) rfl
    cases h2
    have h0 := (of_room (n := 65536) (by decide)).1 hs
    have h1 := of_noroom (n := 256) (by decide) (hn 0 (by simp))
    have e1 : hinfo a = 25 := by unfold hinfo; (repeat' split) <;> omega
    have e2 : hext a = 2 := by unfold hext; (repeat' split) <;> omega
    rw [e1, e2]; exact ⟨rfl, rfl⟩
  · obtain ⟨rfl, h2⟩ := List.append_inj' (show [(0 : Fin 4), 1] ++ [2] = ini ++ [x] from he) rfl
    cases h2
    have h0 := (of_room (n := 4294967296) (by decide)).1 hs
    have h1 := of_noroom (n := 256) (by decide) (hn 0 (by simp))
    have h2 := of_noroom (n := 65536) (by decide) (hn 1 (by simp))
    have e1 : hinfo a = 26 := by unfold hinfo; (repeat' split) <;> omega
    have e2 : hext a = 4 := by unfold hext; (repeat' split) <;> omega
    rw [e1, e2]; exact ⟨rfl, rfl⟩
  · obtain ⟨rfl, h2⟩ := List.append_inj' (show [(0 : Fin 4), 1, 2] ++ [3] = ini ++ [x] from he) rfl
    cases h2
    have h1 := of_noroom (n := 256) (by decide) (hn 0 (by simp))
    have h2 := of_noroom (n := 65536) (by decide) (hn 1 (by simp))
    have h3 := of_noroom (n := 4294967296) (by decide) (hn 2 (by simp))
    have e1 : hinfo a = 27 := by unfold hinfo; (repeat' split) <;> omega
    have e2 : hext a = 8 := by unfold hext; (repeat' split) <;> omega
    rw [e1, e2]; exact ⟨rfl, rfl⟩
theorem has_room {a : Nat} (ha : a < 18446744073709551616) : room 3 a = true := (of_room (n := 18446744073709551616) (by decide)).2 ha

set_option maxRecDepth 100000 in
set_option maxHeartbeats 600000 in
theorem shortest_small (a : Nat) (w : World) (ha : a < 24) : Calls Tryz.prog 37 #[.int .u64 (a : Int)] w fun o w' => o = .returned (.agg #[.int .i64 (a : Int), .int .i64 0]) ∧ Below w.heap.size w w' := by
  go_enter Tryz.func37, Tryz.ntmps37
  go_wp2
  refine wp_scope_straight ?_
  go_wp2
  refine ⟨by simp, ?_⟩
  refine ⟨.agg #[.int .i64 (a : Int), .int .i64 0], by simp [results, Tryz.results37, go_sem], ?_⟩
  exact ⟨rfl, below_al (below_al (Below.refl _ _) _) _⟩

set_option maxRecDepth 100000 in
set_option maxHeartbeats 600000 in
theorem shortest_big (a : Nat) (w : World) (h24 : 24 ≤ a) (ha : a < 18446744073709551616) (hT : SizT w) : Calls Tryz.prog 37 #[.int .u64 (a : Int)] w fun o w' => o = .returned (.agg #[.int .i64 (hinfo a : Int), .int .i64 (hext a : Int)]) ∧ Below w.heap.size w w' := by
  have HT := Lib.hid hT
  have HU := Lib.hid (fun x W => hasRoom_calls x a W)
  have HR3 := Lib.hid (has_room ha)
  have H24 := Lib.hid h24
  have hd : decide ((a : Int) < 24) = false := by simp; omega
  clear hT h24 ha
  refine (callsIn_wide (n := 5)).1 ?_
  refine callsIn_of_wp_marks Tryz.func37 rfl trivial ?_ rfl
  simp only [Tryz.ntmps37, List.size_toArray, List.length_cons, List.length_nil, Nat.reduceAdd, Nat.reduceSub, Array.replicate_succ, Array.replicate_zero, List.push_toArray, List.append_toArray, List.nil_append, List.cons_append]
  gi_wp2
  refine scope_in ?_
  gi_wp2
  refine label_in ?_
  gi_wp2_with (refine ⟨trivial, ?_⟩; gi_at_call 68; refine (sizs_in _ _).mono ?_; rintro o w1 ⟨rfl, rfl⟩)
  obtain ⟨W0, hW0⟩ : ∃ W0, W0 = ((w.alloc (.cells #[.int .u64 (a : Int)] 25)).alloc (.cells #[.int .i64 0, .int .i64 0] 78)).alloc (.cells #[.int .i64 0, .int .i64 0] 78) := ⟨_, rfl⟩
  have a1 : At W0 w.heap.size #[.int .u64 (a : Int)] 25 := by
    rw [hW0]; exact ((At.new w _ _).alloc _).alloc _
  have a2 : At W0 (w.heap.size + 1) #[.int .i64 0, .int .i64 0] 78 := by
    rw [hW0]; exact (At.new1 w _ _ _).alloc _
  have a3 : At W0 (w.heap.size + 1 + 1) #[.int .i64 0, .int .i64 0] 78 := by
    rw [hW0]; exact At.new2 w _ _ _ _
  have hB0 : Below w.heap.size w W0 := by rw [hW0]; exact below_al (below_al (below_al (Below.refl _ w) _) _) _
  have hs0 : W0.heap.size = w.heap.size + 3 := by rw [hW0]; simp
  rw [← hW0]
  have HS0 := Lib.hid hs0
  have HT0 := Lib.hid (HT.out.below hB0)
  clear hW0 hs0
  refine wpIn_rangeFunc_ownH rfl (by omega) (gf := 106) (lb := #[]) rfl trivial (enters_of Tryz.func106 (by kernel_rfl) rfl)
    (sizs_stops (5 - 1) (by omega) _ HT0.out) KeepsWalks.trans (fun W l o o' _ h _ hw => KeepsWalks.putObj o' h hw) (Below.refl _ _) (fun _ => rfl)
    (fun pre W => (((∀ y ∈ pre, room y a = false) ∧ At W w.heap.size #[.int .u64 (a : Int)] 25) ∧ At W (w.heap.size + 1) #[.int .i64 0, .int .i64 0] 78 ∧ At W (w.heap.size + 1 + 1) #[.int .i64 0, .int .i64 0] 78) ∧ Below w.heap.size w W)
    (fun c pre W => (c = .exit 0 ∧ ∃ (ini : List (Fin 4)) (x : Fin 4), pre = ini ++ [x] ∧ room x a = true ∧ (∀ y ∈ ini, room y a = false) ∧ At W (w.heap.size + 1) #[.int .i64 0, .int .i64 0] 78 ∧ At W (w.heap.size + 1 + 1) #[.int .i64 (szI x), .int .i64 (szB x)] 78) ∧ Below w.heap.size w W)
    (OwnFrom.and (OwnFrom.and (OwnFrom.and (ownFrom_pure _ _) (Own.from (at_own _ _ _) _)) (OwnFrom.and (Own.from (at_own _ _ _) _) (Own.from (at_own _ _ _) _))) (ownFrom_below (Nat.le_refl _) (by rw [HS0.out]; omega)))
    (fun c => OwnFrom.and (fun _ _ _ _ hs hg hr => by
      obtain ⟨h1, ini, x, h2, h3, h4, h5, h6⟩ := hs
      exact ⟨h1, ini, x, h2, h3, h4, at_kept h5 hg (fun r e => (hr r e).2), at_kept h6 hg (fun r e => (hr r e).2)⟩) (ownFrom_below (Nat.le_refl _) (by rw [HS0.out]; omega)))
    ⟨⟨⟨by simp, a1⟩, a2, a3⟩, hB0⟩
    (fun x a' W => ∃ C, w.heap.size + 3 ≤ C ∧ At W C #[.int .i64 (szI x), .int .i64 (szB x)] 78 ∧ a' = { tmps := #[.int .u64 (a : Int), .pointer (some ⟨w.heap.size, 0, none⟩), .pointer (some ⟨w.heap.size + 1, 0, none⟩), .pointer (some ⟨w.heap.size + 1 + 1, 0, none⟩), .pointer (some ⟨C, 0, none⟩), .int .u64 (a : Int), .bool false, undef, undef, undef, .func (.func 106) #[] #[], .agg #[.int .i64 (szI x), .int .i64 (szB x)], undef, undef, undef, undef, undef], defers := [] })
    (fun x a' _ _ _ _ hs hg hr => by
      obtain ⟨C, h1, h2, h3⟩ := hs
      exact ⟨C, h1, at_kept h2 hg (fun r e => (hr r e).2), h3⟩)
    ?_ ?_ ?_ ?_
  · intro l pre x W K hI hK
    have hz : w.heap.size + 3 ≤ W.heap.size := by have := hI.1.2.2.lt; omega
    have HI := Lib.hid hI
    have HK := Lib.hid hK
    clear hI hK a1 a2 a3 hB0
    simp only [szV]
    gi_wp2
    obtain ⟨⟨⟨i1, i2⟩, i3, i4⟩, i6⟩ := HI.out
    exact HK.out _ _ ((KeepsOthers.alloc _ _).from _) (KeepsWalks.alloc _ _) ⟨⟨⟨i1, i2.alloc _⟩, i3.alloc _, i4.alloc _⟩, below_al i6 _⟩ ⟨_, hz, At.new _ _ _, rfl⟩
  · rintro l pre x a' W hl hlo ⟨⟨⟨i1, i2⟩, i3, i4⟩, i6⟩ ⟨C, hC, h2, rfl⟩ hlen
    have HI1 := Lib.hid i1
    have HI2 := Lib.hid i2
    have HI3 := Lib.hid i3
    have HI4 := Lib.hid i4
    have HI6 := Lib.hid i6
    have HC := Lib.hid h2
    have HUx := Lib.hid (HU.out x)
    have c0 := i2.c 0 rfl
    have d0 := h2.c 0 rfl
    have d1 := h2.c 1 rfl
    obtain ⟨R, hR⟩ : ∃ R, room x a = R := ⟨_, rfl⟩
    rw [hR] at HUx
    have HR := Lib.hid hR
    clear i1 i2 i3 i4 i6 h2 a1 a2 a3 hB0 hlo hR
    cases R with
    | false =>
      gi_wp2_with (refine ⟨trivial, ?_⟩; gi_at_call 69; refine (callsIn_wide.2 (HUx.out _)).mono ?_; rintro o w2 ⟨rfl, hb2⟩; have HB2 := Lib.hid hb2; clear hb2)
      refine ⟨(keepsO_below HB2.out).from _, (keepsO_below HB2.out).walks, ⟨⟨?_, HI2.out.below HB2.out⟩, HI3.out.below HB2.out, HI4.out.below HB2.out⟩, HI6.out.trans (HB2.out.mono HI6.out.size)⟩
      intro y hy
      rcases List.mem_append.1 hy with h | h
      · exact HI1.out y h
      · simp at h; subst h; exact HR.out
    | true =>
      gi_wp2_with (refine ⟨trivial, ?_⟩; gi_at_call 69; refine (callsIn_wide.2 (HUx.out _)).mono ?_; rintro o w2 ⟨rfl, hb2⟩; have HB2 := Lib.hid hb2; have d0 := (HC.out.below hb2).c 0 rfl; have d1 := (HC.out.below hb2).c 1 rfl; have g0 := (HI4.out.below hb2).c 0 rfl; have g1 := (HI4.out.below hb2).c 1 rfl; have f0 := (HI4.out.below hb2).f 0; have f1 := (HI4.out.below hb2).f 1; have z4 := (HI4.out.below hb2).lt; clear hb2)
      refine ⟨(((keepsO_below HB2.out).trans (KeepsOthers.setCell _ _ _)).trans (KeepsOthers.setCell _ _ _)).from _, ⟨rfl, pre, x, rfl, HR.out, HI1.out, ?_, (HI4.out.below HB2.out).set2 _ _⟩, below2 (HI6.out.trans (HB2.out.mono HI6.out.size)) (by omega) _ _⟩
      exact ((HI3.out.below HB2.out).off (by omega)).off (by omega)
  · rintro D ys W hD rfl ⟨⟨⟨i1, i2⟩, i3, i4⟩, i6⟩ hK
    have := i1 3 (by simp)
    rw [HR3.out] at this
    cases this
  · rintro D c pre W hD hpre ⟨⟨rfl, ini, x, h1, h2, h3, i3, i4⟩, i6⟩ hK
    have HN := Lib.hid (room_of H24.out hpre h1 h2 h3)
    have HI3 := Lib.hid i3
    have HI6 := Lib.hid i6
    have HK := Lib.hid hK
    have g0 := i4.c 0 rfl
    have g1 := i4.c 1 rfl
    have r0 := i3.c 0 rfl
    have r1 := i3.c 1 rfl
    have f0 := i3.f 0
    have f1 := i3.f 1
    have z3 := i3.lt
    clear h1 h2 h3 hpre i3 i4 i6 hK a1 a2 a3 hB0
    gi_wp2
    have hd : D ≠ w.heap.size + 1 := by have := HS0.out; omega
    have HR := Lib.hid (show At ((W.setCell ⟨w.heap.size + 1, 0, none⟩ (.int .i64 (szI x))).setCell ⟨w.heap.size + 1, 1, none⟩ (.int .i64 (szB x))) (w.heap.size + 1) #[.int .i64 (szI x), .int .i64 (szB x)] 78 from At.set2 (W := W) HI3.out _ _)
    have HB := Lib.hid (below2 HI6.out (B := w.heap.size + 1) (by omega) (.int .i64 (szI x)) (.int .i64 (szB x)))
    have HD := Lib.hid (show ((W.setCell ⟨w.heap.size + 1, 0, none⟩ (.int .i64 (szI x))).setCell ⟨w.heap.size + 1, 1, none⟩ (.int .i64 (szB x))).heap[D]? = some (.deferred (some [])) from
      (heap_setCell_other _ ⟨w.heap.size + 1, 1, none⟩ D _ hd).trans ((heap_setCell_other _ ⟨w.heap.size + 1, 0, none⟩ D _ hd).trans HK.out))
    obtain ⟨WX, hWX⟩ : ∃ WX, WX = (W.setCell ⟨w.heap.size + 1, 0, none⟩ (.int .i64 (szI x))).setCell ⟨w.heap.size + 1, 1, none⟩ (.int .i64 (szB x)) := ⟨_, rfl⟩
    rw [← hWX] at HR HB HD ⊢
    clear hWX hd r0 r1 f0 f1 z3
    refine ⟨by simp, .inl ⟨_, _, rfl, run_takeDeferred HD.out, ?_⟩⟩
    have q := HR.out.putObj (.deferred none) HD.out rfl
    have q0 := q.c 0 rfl
    have q1 := q.c 1 rfl
    refine ⟨.agg #[.int .i64 (szI x), .int .i64 (szB x)], by simp [results, Tryz.results37, go_sem, q0, q1], ?_⟩
    exact ⟨by rw [HN.out.1, HN.out.2], HB.out.trans (belowK_b (w := w) (Nat.le_refl _) _ D _ _ (by have := HS0.out; omega) HD.out rfl rfl)⟩
theorem shortest_calls (a : Nat) (w : World) (ha : a < 18446744073709551616) (hT : SizT w) : Calls Tryz.prog 37 #[.int .u64 (a : Int)] w fun o w' => o = .returned (.agg #[.int .i64 (hinfo a : Int), .int .i64 (hext a : Int)]) ∧ Below w.heap.size w w' := by
  by_cases h : a < 24
  · have e1 : hinfo a = a := by rw [hinfo, if_pos h]
    have e2 : hext a = 0 := by rw [hext, if_pos h]
    rw [e1, e2]
    exact shortest_small a w h
  · exact shortest_big a w (by omega) ha hT
end Go.Proofs.YtppapkpceejnkaaGreatDoor
namespace Go.Proofs.YtppapkpceejnkaaGreatDoor
open Go.RowKit Go.Shelf

attribute [local go_sem] Oper.semAt_some

def toV : Option (Fin 4) → Value
  | some x => .tuple #[.agg #[.int .i64 (szI x), .int .i64 (szB x)], .bool true]
  | none => .tuple #[.agg #[.int .i64 0, .int .i64 0], .bool false]
def szO (k : Int) : Option (Fin 4) := if k = 24 then some 0 else if k = 25 then some 1 else if k = 26 then some 2 else if k = 27 then some 3 else none
theorem szO_of {x : Fin 4} {k : Int} (h : szI x = k) : szO k = some x := by
  subst h
  match x with
  | 0 => rfl
  | 1 => rfl
  | 2 => rfl
  | 3 => rfl
theorem szO_none {k : Int} (h : ∀ y ∈ ([0, 1, 2, 3] : List (Fin 4)), szI y ≠ k) : szO k = none := by
  have h0 := h 0 (by simp)
  have h1 := h 1 (by simp)
  have h2 := h 2 (by simp)
  have h3 := h 3 (by simp)
  rw [szO, if_neg (fun e => h0 e.symm), if_neg (fun e => h1 e.symm), if_neg (fun e => h2 e.symm), if_neg (fun e => h3 e.symm)]

set_option maxRecDepth 100000 in
set_option maxHeartbeats 600000 in
theorem told_small (k : Int) (w : World) (hk : k < 24 ∨ k = 31) : Calls Tryz.prog 149 #[.int .i64 k] w fun o w' => o = .returned (.tuple #[.agg #[.int .i64 k, .int .i64 0], .bool true]) ∧ Below w.heap.size w w' := by
  rcases hk with hk | rfl
  · have hd : decide (k < 24) = true := by simp; omega
    go_enter Tryz.func149, Tryz.ntmps149
    go_wp2
    refine wp_scope_straight ?_
    go_wp2
    refine ⟨by simp, ?_⟩
    refine ⟨.tuple #[.agg #[.int .i64 k, .int .i64 0], .bool true], by simp [results, Tryz.results149, go_sem], ?_⟩
    exact ⟨rfl, below_al (below_al (Below.refl _ _) _) _⟩
  · go_enter Tryz.func149, Tryz.ntmps149
    go_wp2
    refine wp_scope_straight ?_
    go_wp2
    refine ⟨by simp, ?_⟩
    refine ⟨.tuple #[.agg #[.int .i64 31, .int .i64 0], .bool true], by simp [results, Tryz.results149, go_sem], ?_⟩
    exact ⟨rfl, below_al (below_al (Below.refl _ _) _) _⟩

set_option maxRecDepth 100000 in
set_option maxHeartbeats 600000 in
theorem told_big (k : Int) (w : World) (h24 : 24 ≤ k) (h31 : k ≠ 31) (hT : SizT w) : Calls Tryz.prog 149 #[.int .i64 k] w fun o w' => o = .returned (toV (szO k)) ∧ Below w.heap.size w w' := by
  have HT := Lib.hid hT
  have hd : decide (k < 24) = false := by simp; omega
  have he : (k == 31) = false := by simpa using h31
  clear hT h24 h31
  refine (callsIn_wide (n := 5)).1 ?_
  refine callsIn_of_wp_marks Tryz.func149 rfl trivial ?_ rfl
  simp only [Tryz.ntmps149, List.size_toArray, List.length_cons, List.length_nil, Nat.reduceAdd, Nat.reduceSub, Array.replicate_succ, Array.replicate_zero, List.push_toArray, List.append_toArray, List.nil_append, List.cons_append]
  gi_wp2
  refine scope_in ?_
  gi_wp2
  refine label_in ?_
  gi_wp2_with (refine ⟨trivial, ?_⟩; gi_at_call 68; refine (sizs_in _ _).mono ?_; rintro o w1 ⟨rfl, rfl⟩)
  obtain ⟨W0, hW0⟩ : ∃ W0, W0 = (((w.alloc (.cells #[.int .i64 k] 3)).alloc (.cells #[.int .i64 0, .int .i64 0] 78)).alloc (.cells #[.int .i64 0, .int .i64 0] 78)).alloc (.cells #[.bool false] 4) := ⟨_, rfl⟩
  have a1 : At W0 w.heap.size #[.int .i64 k] 3 := by
    rw [hW0]; exact (((At.new w _ _).alloc _).alloc _).alloc _
  have a2 : At W0 (w.heap.size + 1) #[.int .i64 0, .int .i64 0] 78 := by
    rw [hW0]; exact ((At.new1 w _ _ _).alloc _).alloc _
  have a3 : At W0 (w.heap.size + 1 + 1) #[.int .i64 0, .int .i64 0] 78 := by
    rw [hW0]; exact (At.new2 w _ _ _ _).alloc _
  have a4 : At W0 (w.heap.size + 1 + 1 + 1) #[.bool false] 4 := by
    rw [hW0]
    have := At.new (((w.alloc (.cells #[.int .i64 k] 3)).alloc (.cells #[.int .i64 0, .int .i64 0] 78)).alloc (.cells #[.int .i64 0, .int .i64 0] 78)) #[.bool false] 4
    rwa [World.size_alloc, World.size_alloc, World.size_alloc] at this
  have hB0 : Below w.heap.size w W0 := by rw [hW0]; exact below_al (below_al (below_al (below_al (Below.refl _ w) _) _) _) _
  have hs0 : W0.heap.size = w.heap.size + 4 := by rw [hW0]; simp
  rw [← hW0]
  have HS0 := Lib.hid hs0
  have HT0 := Lib.hid (HT.out.below hB0)
  clear hW0 hs0
  refine wpIn_rangeFunc_ownH rfl (by omega) (gf := 106) (lb := #[]) rfl trivial (enters_of Tryz.func106 (by kernel_rfl) rfl)
    (sizs_stops (5 - 1) (by omega) _ HT0.out) KeepsWalks.trans (fun W l o o' _ h _ hw => KeepsWalks.putObj o' h hw) (Below.refl _ _) (fun _ => rfl)
    (fun pre W => (((∀ y ∈ pre, szI y ≠ k) ∧ At W w.heap.size #[.int .i64 k] 3) ∧ At W (w.heap.size + 1) #[.int .i64 0, .int .i64 0] 78 ∧ At W (w.heap.size + 1 + 1) #[.int .i64 0, .int .i64 0] 78 ∧ At W (w.heap.size + 1 + 1 + 1) #[.bool false] 4) ∧ Below w.heap.size w W)
    (fun c _ W => (c = .exit 0 ∧ ∃ x : Fin 4, szI x = k ∧ At W (w.heap.size + 1) #[.int .i64 0, .int .i64 0] 78 ∧ At W (w.heap.size + 1 + 1) #[.int .i64 (szI x), .int .i64 (szB x)] 78 ∧ At W (w.heap.size + 1 + 1 + 1) #[.bool true] 4) ∧ Below w.heap.size w W)
    (OwnFrom.and (OwnFrom.and (OwnFrom.and (ownFrom_pure _ _) (Own.from (at_own _ _ _) _)) (OwnFrom.and (Own.from (at_own _ _ _) _) (OwnFrom.and (Own.from (at_own _ _ _) _) (Own.from (at_own _ _ _) _)))) (ownFrom_below (Nat.le_refl _) (by rw [HS0.out]; omega)))
    (fun c => OwnFrom.and (fun _ _ _ _ hs hg hr => by
      obtain ⟨h1, x, h2, h3, h4, h5⟩ := hs
      exact ⟨h1, x, h2, at_kept h3 hg (fun r e => (hr r e).2), at_kept h4 hg (fun r e => (hr r e).2), at_kept h5 hg (fun r e => (hr r e).2)⟩) (ownFrom_below (Nat.le_refl _) (by rw [HS0.out]; omega)))
    ⟨⟨⟨by simp, a1⟩, a2, a3, a4⟩, hB0⟩
    (fun x a' W => ∃ C, w.heap.size + 4 ≤ C ∧ At W C #[.int .i64 (szI x), .int .i64 (szB x)] 78 ∧ a' = { tmps := #[.int .i64 k, .pointer (some ⟨w.heap.size, 0, none⟩), .pointer (some ⟨w.heap.size + 1, 0, none⟩), .bool false, .pointer (some ⟨w.heap.size + 1 + 1, 0, none⟩), .pointer (some ⟨w.heap.size + 1 + 1 + 1, 0, none⟩), .pointer (some ⟨C, 0, none⟩), .int .i64 k, .bool false, .bool false, .int .i64 k, .bool false, .bool false, undef, undef, .func (.func 106) #[] #[], .agg #[.int .i64 (szI x), .int .i64 (szB x)], undef, undef, undef, undef, undef, undef, undef], defers := [] })
    (fun x a' _ _ _ _ hs hg hr => by
      obtain ⟨C, h1, h2, h3⟩ := hs
      exact ⟨C, h1, at_kept h2 hg (fun r e => (hr r e).2), h3⟩)
    ?_ ?_ ?_ ?_
  · intro l pre x W K hI hK
    have hz : w.heap.size + 4 ≤ W.heap.size := by have := hI.1.2.2.2.lt; omega
    have HI := Lib.hid hI
    have HK := Lib.hid hK
    clear hI hK a1 a2 a3 a4 hB0
    simp only [szV]
    gi_wp2
    obtain ⟨⟨⟨i1, i2⟩, i3, i4, i5⟩, i6⟩ := HI.out
    exact HK.out _ _ ((KeepsOthers.alloc _ _).from _) (KeepsWalks.alloc _ _) ⟨⟨⟨i1, i2.alloc _⟩, i3.alloc _, i4.alloc _, i5.alloc _⟩, below_al i6 _⟩ ⟨_, hz, At.new _ _ _, rfl⟩
  · rintro l pre x a' W hl hlo ⟨⟨⟨i1, i2⟩, i3, i4, i5⟩, i6⟩ ⟨C, hC, h2, rfl⟩ hlen
    have HI1 := Lib.hid i1
    have HI2 := Lib.hid i2
    have HI3 := Lib.hid i3
    have HI4 := Lib.hid i4
    have HI5 := Lib.hid i5
    have HI6 := Lib.hid i6
    have HC := Lib.hid h2
    clear i1 a1 a2 a3 a4 hB0 hlo hd he
    have c0 := i2.c 0 rfl
    have d0 := h2.c 0 rfl
    have d1 := h2.c 1 rfl
    by_cases hx : szI x = k
    · have hxb : (szI x == k) = true := by simpa using hx
      have g0 := i4.c 0 rfl
      have g1 := i4.c 1 rfl
      have f0 := i4.f 0
      have f1 := i4.f 1
      have k0 := i5.c 0 rfl
      have m0 := i5.f 0
      have z4 := i4.lt
      have z5 := i5.lt
      have HX := Lib.hid hx
      clear hx i2 i3 i4 i5 i6 h2
      gi_wp2
      refine ⟨(((KeepsOthers.setCell _ _ _).trans (KeepsOthers.setCell _ _ _)).trans (KeepsOthers.setCell _ _ _)).from _, ⟨rfl, x, HX.out, ?_, ?_, ?_⟩, below1 (below2 HI6.out (by omega) _ _) (by omega) _⟩
      · exact ((HI3.out.off (by omega)).off (by omega)).off (by omega)
      · exact (HI4.out.set2 _ _).off (by omega)
      · exact ((HI5.out.off (by omega)).off (by omega)).set1 _
    · have hxb : (szI x == k) = false := by simpa using hx
      have HX := Lib.hid hx
      clear hx i2 i3 i4 i5 i6 h2
      gi_wp2
      refine ⟨KeepsFrom.refl _ _, KeepsWalks.refl _, ⟨⟨?_, HI2.out⟩, HI3.out, HI4.out, HI5.out⟩, HI6.out⟩
      intro y hy
      rcases List.mem_append.1 hy with h | h
      · exact HI1.out y h
      · simp at h; subst h; exact HX.out
  · rintro D ys W hD rfl ⟨⟨⟨i1, i2⟩, i3, i4, i5⟩, i6⟩ hK
    have HN := Lib.hid (szO_none i1)
    have HI3 := Lib.hid i3
    have HI6 := Lib.hid i6
    have HK := Lib.hid hK
    have g0 := i4.c 0 rfl
    have g1 := i4.c 1 rfl
    have k0 := i5.c 0 rfl
    have r0 := i3.c 0 rfl
    have r1 := i3.c 1 rfl
    have f0 := i3.f 0
    have f1 := i3.f 1
    have z3 := i3.lt
    clear i1 i2 i3 i6 hK a1 a2 a3 a4 hB0 hd he
    have G4 := Lib.hid i4
    have G5 := Lib.hid i5
    clear i4 i5
    gi_wp2
    refine wpIn_wide.2 ?_
    have HI3d := Lib.hid (show At W.drew _ _ _ from HI3.out)
    have G4d := Lib.hid (show At W.drew _ _ _ from G4.out)
    have G5d := Lib.hid (show At W.drew _ _ _ from G5.out)
    have HKd := Lib.hid (show W.drew.heap[D]? = some (.deferred (some [])) from HK.out)
    clear HI3 G4 G5 HK g0 g1 k0
    go_region_held3 (fun w' => (w'.cell? ⟨w.heap.size + 1 + 1, 0, none⟩ = some (.int .i64 0) ∧ w'.cell? ⟨w.heap.size + 1 + 1, 1, none⟩ = some (.int .i64 0)) ∧ w'.cell? ⟨w.heap.size + 1 + 1 + 1, 0, none⟩ = some (.bool false))
      (first
        | exact ⟨⟨G4d.out.c 0 rfl, G4d.out.c 1 rfl⟩, G5d.out.c 0 rfl⟩
        | exact ⟨⟨((G4d.out.off (by omega)).off (by omega)).c 0 rfl, ((G4d.out.off (by omega)).off (by omega)).c 1 rfl⟩, ((G5d.out.off (by omega)).off (by omega)).c 0 rfl⟩)
      (fail)
    all_goals
      have hd : D ≠ w.heap.size + 1 := by have := HS0.out; omega
      have HR := Lib.hid (show At (((W.setCell ⟨w.heap.size + 1, 0, none⟩ (.int .i64 0)).setCell ⟨w.heap.size + 1, 1, none⟩ (.int .i64 0)).drew) (w.heap.size + 1) #[.int .i64 0, .int .i64 0] 78 from At.set2 (W := W) HI3d.out _ _)
      have HB := Lib.hid (show Below w.heap.size w (((W.setCell ⟨w.heap.size + 1, 0, none⟩ (.int .i64 0)).setCell ⟨w.heap.size + 1, 1, none⟩ (.int .i64 0)).drew) from (below2 (W := W) HI6.out (by omega) _ _).drew)
      have HD := Lib.hid (show (((W.setCell ⟨w.heap.size + 1, 0, none⟩ (.int .i64 0)).setCell ⟨w.heap.size + 1, 1, none⟩ (.int .i64 0)).drew).heap[D]? = some (.deferred (some [])) from
        (heap_setCell_other _ ⟨w.heap.size + 1, 1, none⟩ D _ hd).trans ((heap_setCell_other _ ⟨w.heap.size + 1, 0, none⟩ D _ hd).trans HKd.out))
      obtain ⟨WX, hWX⟩ : ∃ WX, WX = ((W.setCell ⟨w.heap.size + 1, 0, none⟩ (.int .i64 0)).setCell ⟨w.heap.size + 1, 1, none⟩ (.int .i64 0)).drew := ⟨_, rfl⟩
      rw [← hWX] at HR HB HD ⊢
      clear hWX hd r0 r1 f0 f1 z3
      gi_wp2
      refine ⟨by simp, .inl ⟨_, _, rfl, run_takeDeferred HD.out, ?_⟩⟩
      have q := HR.out.putObj (.deferred none) HD.out rfl
      have q0 := q.c 0 rfl
      have q1 := q.c 1 rfl
      refine ⟨.tuple #[.agg #[.int .i64 0, .int .i64 0], .bool false], by simp [results, Tryz.results149, go_sem, q0, q1], ?_⟩
      exact ⟨by rw [HN.out]; rfl, HB.out.trans (belowK_b (w := w) (Nat.le_refl _) _ D _ _ (by have := HS0.out; omega) HD.out rfl rfl)⟩
  · rintro D c pre W hD _ ⟨⟨rfl, x, hx, i3, i4, i5⟩, i6⟩ hK
    have HN := Lib.hid (szO_of hx)
    have HI3 := Lib.hid i3
    have HI6 := Lib.hid i6
    have HK := Lib.hid hK
    have g0 := i4.c 0 rfl
    have g1 := i4.c 1 rfl
    have k0 := i5.c 0 rfl
    have r0 := i3.c 0 rfl
    have r1 := i3.c 1 rfl
    have f0 := i3.f 0
    have f1 := i3.f 1
    have z3 := i3.lt
    clear hx i3 i6 hK a1 a2 a3 a4 hB0 hd he
    have G4 := Lib.hid i4
    have G5 := Lib.hid i5
    clear i4 i5
    gi_wp2
    refine wpIn_wide.2 ?_
    have HI3d := Lib.hid (show At W.drew _ _ _ from HI3.out)
    have G4d := Lib.hid (show At W.drew _ _ _ from G4.out)
    have G5d := Lib.hid (show At W.drew _ _ _ from G5.out)
    have HKd := Lib.hid (show W.drew.heap[D]? = some (.deferred (some [])) from HK.out)
    clear HI3 G4 G5 HK g0 g1 k0
    go_region_held3 (fun w' => (w'.cell? ⟨w.heap.size + 1 + 1, 0, none⟩ = some (.int .i64 (szI x)) ∧ w'.cell? ⟨w.heap.size + 1 + 1, 1, none⟩ = some (.int .i64 (szB x))) ∧ w'.cell? ⟨w.heap.size + 1 + 1 + 1, 0, none⟩ = some (.bool true))
      (first
        | exact ⟨⟨G4d.out.c 0 rfl, G4d.out.c 1 rfl⟩, G5d.out.c 0 rfl⟩
        | exact ⟨⟨((G4d.out.off (by omega)).off (by omega)).c 0 rfl, ((G4d.out.off (by omega)).off (by omega)).c 1 rfl⟩, ((G5d.out.off (by omega)).off (by omega)).c 0 rfl⟩)
      (fail)
    all_goals
      have hd : D ≠ w.heap.size + 1 := by have := HS0.out; omega
      have HR := Lib.hid (show At (((W.setCell ⟨w.heap.size + 1, 0, none⟩ (.int .i64 (szI x))).setCell ⟨w.heap.size + 1, 1, none⟩ (.int .i64 (szB x))).drew) (w.heap.size + 1) #[.int .i64 (szI x), .int .i64 (szB x)] 78 from At.set2 (W := W) HI3d.out _ _)
      have HB := Lib.hid (show Below w.heap.size w (((W.setCell ⟨w.heap.size + 1, 0, none⟩ (.int .i64 (szI x))).setCell ⟨w.heap.size + 1, 1, none⟩ (.int .i64 (szB x))).drew) from (below2 (W := W) HI6.out (by omega) _ _).drew)
      have HD := Lib.hid (show (((W.setCell ⟨w.heap.size + 1, 0, none⟩ (.int .i64 (szI x))).setCell ⟨w.heap.size + 1, 1, none⟩ (.int .i64 (szB x))).drew).heap[D]? = some (.deferred (some [])) from
        (heap_setCell_other _ ⟨w.heap.size + 1, 1, none⟩ D _ hd).trans ((heap_setCell_other _ ⟨w.heap.size + 1, 0, none⟩ D _ hd).trans HKd.out))
      obtain ⟨WX, hWX⟩ : ∃ WX, WX = ((W.setCell ⟨w.heap.size + 1, 0, none⟩ (.int .i64 (szI x))).setCell ⟨w.heap.size + 1, 1, none⟩ (.int .i64 (szB x))).drew := ⟨_, rfl⟩
      rw [← hWX] at HR HB HD ⊢
      clear hWX hd r0 r1 f0 f1 z3
      gi_wp2
      refine ⟨by simp, .inl ⟨_, _, rfl, run_takeDeferred HD.out, ?_⟩⟩
      have q := HR.out.putObj (.deferred none) HD.out rfl
      have q0 := q.c 0 rfl
      have q1 := q.c 1 rfl
      refine ⟨.tuple #[.agg #[.int .i64 (szI x), .int .i64 (szB x)], .bool true], by simp [results, Tryz.results149, go_sem, q0, q1], ?_⟩
      exact ⟨by rw [HN.out]; rfl, HB.out.trans (belowK_b (w := w) (Nat.le_refl _) _ D _ _ (by have := HS0.out; omega) HD.out rfl rfl)⟩
/-- What told answers. -/
def toldV (k : Nat) : Value := match nby k with
  | some n => .tuple #[.agg #[.int .i64 (k : Int), .int .i64 (n : Int)], .bool true]
  | none => .tuple #[.agg #[.int .i64 0, .int .i64 0], .bool false]
theorem told_calls (k : Nat) (w : World) (hk : k < 32) (hT : SizT w) : Calls Tryz.prog 149 #[.int .i64 (k : Int)] w fun o w' => o = .returned (toldV k) ∧ Below w.heap.size w w' := by
  by_cases h : k < 24 ∨ k = 31
  · have e : nby k = some 0 := by
      unfold nby
      rcases h with h | rfl
      · rw [if_pos h]
      · rfl
    rw [toldV, e]
    exact told_small k w (by omega)
  · have e : toldV k = toV (szO (k : Int)) := by
      have : k = 24 ∨ k = 25 ∨ k = 26 ∨ k = 27 ∨ k = 28 ∨ k = 29 ∨ k = 30 := by omega
      rcases this with rfl | rfl | rfl | rfl | rfl | rfl | rfl <;> rfl
    rw [e]
    exact told_big k w (by omega) (by omega) hT
end Go.Proofs.YtppapkpceejnkaaGreatDoor
namespace Go.Proofs.YtppapkpceejnkaaGreatDoor
open Go.RowKit

/-- A new row of bytes, none of them set. -/
def rowH (n : Nat) : Obj := .cells (madeCells #[.int .u8 0] n) 5
theorem run_make_h (W : World) (n : Nat) (hn : n ≤ 100) : (Instr.makeSlice 45 (.int .i64 (n : Int)) (.int .i64 (n : Int))).run Tryz.prog W = .ok (.slice (some ⟨W.heap.size, 0, none⟩) n n) (W.alloc (rowH n)) := by
  obtain ⟨i0, hi, hz0, hz1, hz2⟩ := info_parts info5
  have h := run_make (P := Tryz.prog) W 45 5 i0 (.int .u8 0) Tryz.underlying45 hi hz0 .i64 .i64 (n : Int) (n : Int) (by omega) (by omega) (by rw [hz2]; omega) (by omega)
  rw [h, hz1, Int.toNat_natCast, Nat.mul_one, rowH]
  rfl
/-- The row behind k rounds. -/
def rowK (n a k : Nat) : Array Value := (((bigL n a).map encB).take k ++ (List.replicate (n - k) (Value.int .u8 0))).toArray
theorem bigL_get : ∀ (n a k : Nat), k < n → (bigL n a)[k]? = some (UInt8.ofNat (a / 256 ^ (n - 1 - k)))
  | 0, _, _, h => by omega
  | n + 1, a, 0, _ => by rw [bigL]; rfl
  | n + 1, a, k + 1, h => by
    rw [bigL, List.getElem?_cons_succ, bigL_get n a k (by omega)]
    congr 4; omega
theorem take_set {l : List Value} {n k : Nat} {x z : Value} (hl : l.length = n) (hk : k < n) (hx : l[k]? = some x) : (l.take k ++ List.replicate (n - k) z).set k x = l.take (k + 1) ++ List.replicate (n - (k + 1)) z := by
  have h1 : (l.take k).length = k := by rw [List.length_take]; omega
  have h2 : n - k = (n - (k + 1)) + 1 := by omega
  have h3 : k < l.length := by omega
  rw [List.getElem?_eq_getElem h3] at hx
  rw [List.set_append_right _ _ (by omega), h1, Nat.sub_self, h2, List.replicate_succ, List.set_cons_zero, List.take_succ_eq_append_getElem h3, Option.some.inj hx, List.append_assoc]
  rfl
theorem rowK_set (n a k : Nat) (hk : k < n) {x : Int} (hx : x = ((a / 256 ^ (n - 1 - k) % 256 : Nat) : Int)) : (rowK n a k).setIfInBounds k (.int .u8 x) = rowK n a (k + 1) := by
  subst hx
  rw [rowK, rowK, List.setIfInBounds_toArray, take_set (x := .int .u8 ((a / 256 ^ (n - 1 - k) % 256 : Nat) : Int)) (by rw [List.length_map, bigL_len]) hk]
  rw [List.getElem?_map, bigL_get n a k hk, Option.map_some, encB, UInt8.toNat_ofNat']
theorem rowK_end (n a : Nat) : rowK n a n = ((bigL n a).map encB).toArray := by
  rw [rowK, Nat.sub_self, List.replicate_zero, List.append_nil, List.take_of_length_le (by rw [List.length_map, bigL_len]; exact Nat.le_refl _)]
theorem rowK_at (n a k : Nat) (hk : k < n) : (rowK n a k)[k]? = some (.int .u8 0) := by
  rw [rowK, List.getElem?_toArray, List.getElem?_append_right (by rw [List.length_take]; exact Nat.min_le_left _ _), List.length_take, List.length_map, bigL_len, Nat.min_eq_left (by omega), Nat.sub_self, List.getElem?_replicate, if_pos (by omega)]
theorem at_setK {W : World} {B n a k : Nat} {x : Int} (h : At W B (rowK n a k) 5) (hk : k < n) (hx : x = ((a / 256 ^ (n - 1 - k) % 256 : Nat) : Int)) : At (W.setCell ⟨B, k, none⟩ (.int .u8 x)) B (rowK n a (k + 1)) 5 := by
  rw [← rowK_set n a k hk hx]
  exact heap_setCell_same W B k _ _ _ h
theorem rowH_K (n a : Nat) : rowH n = .cells (rowK n a 0) 5 := by
  have h : madeCells #[Value.int .u8 0] n = rowK n a 0 := by
    apply Array.ext
    · simp [size_madeCells, rowK]
    · intro i h1 h2
      simp [madeCells, rowK, Nat.mod_one]
  rw [rowH, h]
/-- What split answers. -/
def SplitPost (n a : Nat) (w : World) (o : Ending) (w' : World) : Prop := ∃ g, w.heap.size ≤ g ∧ o = .returned (.slice (some ⟨g, 0, none⟩) n n) ∧ At w' g ((bigL n a).map encB).toArray 5 ∧ Below w.heap.size w w'
set_option maxRecDepth 100000 in
set_option maxHeartbeats 1000000 in
theorem split0 (i : Int) (a : Nat) (w : World) : Calls Tryz.prog 39 #[.agg #[.int .i64 i, .int .i64 0], .int .u64 (a : Int)] w (SplitPost 0 a w) := by
  have hmk : ∀ W : World, (Instr.makeSlice 45 (.int .i64 0) (.int .i64 0)).run Tryz.prog W = .ok (.slice (some ⟨W.heap.size, 0, none⟩) 0 0) (W.alloc (.cells (rowK 0 a 0) 5)) := fun W => by
    rw [← rowH_K 0 a]; exact run_make_h W 0 (by omega)
  go_enter Tryz.func39, Tryz.ntmps39
  go_wp2
  clear hmk
  go_loopw [12] (fun i2 wr => ∃ k : Nat, i2 = .int .i64 k ∧ k ≤ 0 ∧ At wr w.heap.size #[.int .i64 i, .int .i64 0] 78 ∧ At wr (w.heap.size + 1) (rowK 0 a k) 5 ∧ Below w.heap.size w wr) (fun i2 _ => 0 - (intOf i2).toNat)
  case atStart => exact ⟨0, rfl, by omega, (At.new w _ _).alloc _, At.new1 w _ _ _, below_al (below_al (Below.refl _ _) _) _⟩
  case round =>
    obtain ⟨k, rfl, hk, ha, hr, hb⟩ := hrel
    have c1 := ha.c 1 rfl
    have HA := Lib.hid ha
    have HR := Lib.hid hr
    have HB := Lib.hid hb
    have HZ := Lib.hid hr.lt
    clear ha hr hb
    have hcs : k = 0 := by omega
    rcases hcs with rfl
    · go_wp2
      go_ret
      exact ⟨_, by omega, rfl, by rw [← rowK_end]; exact HR.out, HB.out⟩
set_option maxRecDepth 100000 in
set_option maxHeartbeats 1000000 in
theorem split1 (i : Int) (a : Nat) (w : World) : Calls Tryz.prog 39 #[.agg #[.int .i64 i, .int .i64 1], .int .u64 (a : Int)] w (SplitPost 1 a w) := by
  have hmk : ∀ W : World, (Instr.makeSlice 45 (.int .i64 1) (.int .i64 1)).run Tryz.prog W = .ok (.slice (some ⟨W.heap.size, 0, none⟩) 1 1) (W.alloc (.cells (rowK 1 a 0) 5)) := fun W => by
    rw [← rowH_K 1 a]; exact run_make_h W 1 (by omega)
  go_enter Tryz.func39, Tryz.ntmps39
  go_wp2
  clear hmk
  go_loopw [12] (fun i2 wr => ∃ k : Nat, i2 = .int .i64 k ∧ k ≤ 1 ∧ At wr w.heap.size #[.int .i64 i, .int .i64 1] 78 ∧ At wr (w.heap.size + 1) (rowK 1 a k) 5 ∧ Below w.heap.size w wr) (fun i2 _ => 1 - (intOf i2).toNat)
  case atStart => exact ⟨0, rfl, by omega, (At.new w _ _).alloc _, At.new1 w _ _ _, below_al (below_al (Below.refl _ _) _) _⟩
  case round =>
    obtain ⟨k, rfl, hk, ha, hr, hb⟩ := hrel
    have c1 := ha.c 1 rfl
    have HA := Lib.hid ha
    have HR := Lib.hid hr
    have HB := Lib.hid hb
    have HZ := Lib.hid hr.lt
    clear ha hr hb
    have hcs : k = 0 ∨ k = 1 := by omega
    rcases hcs with rfl | rfl
    · have d0 := HR.out.c 0 (rowK_at 1 a 0 (by omega))
      have f0 := HR.out.f 0
      have z0 := HZ.out
      go_wp2
      go_roundw
      case rel => exact ⟨1, rfl, by omega, HA.out.off (by omega), at_setK HR.out (by omega) (by simp), HB.out.setCell (p := ⟨w.heap.size + 1, 0, none⟩) (by simp) _⟩
      case measure => simp [intOf]
    · go_wp2
      go_ret
      exact ⟨_, by omega, rfl, by rw [← rowK_end]; exact HR.out, HB.out⟩
set_option maxRecDepth 100000 in
set_option maxHeartbeats 1000000 in
theorem split2 (i : Int) (a : Nat) (w : World) : Calls Tryz.prog 39 #[.agg #[.int .i64 i, .int .i64 2], .int .u64 (a : Int)] w (SplitPost 2 a w) := by
  have hmk : ∀ W : World, (Instr.makeSlice 45 (.int .i64 2) (.int .i64 2)).run Tryz.prog W = .ok (.slice (some ⟨W.heap.size, 0, none⟩) 2 2) (W.alloc (.cells (rowK 2 a 0) 5)) := fun W => by
    rw [← rowH_K 2 a]; exact run_make_h W 2 (by omega)
  go_enter Tryz.func39, Tryz.ntmps39
  go_wp2
  clear hmk
  go_loopw [12] (fun i2 wr => ∃ k : Nat, i2 = .int .i64 k ∧ k ≤ 2 ∧ At wr w.heap.size #[.int .i64 i, .int .i64 2] 78 ∧ At wr (w.heap.size + 1) (rowK 2 a k) 5 ∧ Below w.heap.size w wr) (fun i2 _ => 2 - (intOf i2).toNat)
  case atStart => exact ⟨0, rfl, by omega, (At.new w _ _).alloc _, At.new1 w _ _ _, below_al (below_al (Below.refl _ _) _) _⟩
  case round =>
    obtain ⟨k, rfl, hk, ha, hr, hb⟩ := hrel
    have c1 := ha.c 1 rfl
    have HA := Lib.hid ha
    have HR := Lib.hid hr
    have HB := Lib.hid hb
    have HZ := Lib.hid hr.lt
    clear ha hr hb
    have hcs : k = 0 ∨ k = 1 ∨ k = 2 := by omega
    rcases hcs with rfl | rfl | rfl
    · have d0 := HR.out.c 0 (rowK_at 2 a 0 (by omega))
      have f0 := HR.out.f 0
      have z0 := HZ.out
      go_wp2
      go_roundw
      case rel => exact ⟨1, rfl, by omega, HA.out.off (by omega), at_setK HR.out (by omega) (by simp), HB.out.setCell (p := ⟨w.heap.size + 1, 0, none⟩) (by simp) _⟩
      case measure => simp [intOf]
    · have d0 := HR.out.c 1 (rowK_at 2 a 1 (by omega))
      have f0 := HR.out.f 1
      have z0 := HZ.out
      go_wp2
      go_roundw
      case rel => exact ⟨2, rfl, by omega, HA.out.off (by omega), at_setK HR.out (by omega) (by simp), HB.out.setCell (p := ⟨w.heap.size + 1, 1, none⟩) (by simp) _⟩
      case measure => simp [intOf]
    · go_wp2
      go_ret
      exact ⟨_, by omega, rfl, by rw [← rowK_end]; exact HR.out, HB.out⟩
set_option maxRecDepth 100000 in
set_option maxHeartbeats 1000000 in
theorem split4 (i : Int) (a : Nat) (w : World) : Calls Tryz.prog 39 #[.agg #[.int .i64 i, .int .i64 4], .int .u64 (a : Int)] w (SplitPost 4 a w) := by
  have hmk : ∀ W : World, (Instr.makeSlice 45 (.int .i64 4) (.int .i64 4)).run Tryz.prog W = .ok (.slice (some ⟨W.heap.size, 0, none⟩) 4 4) (W.alloc (.cells (rowK 4 a 0) 5)) := fun W => by
    rw [← rowH_K 4 a]; exact run_make_h W 4 (by omega)
  go_enter Tryz.func39, Tryz.ntmps39
  go_wp2
  clear hmk
  go_loopw [12] (fun i2 wr => ∃ k : Nat, i2 = .int .i64 k ∧ k ≤ 4 ∧ At wr w.heap.size #[.int .i64 i, .int .i64 4] 78 ∧ At wr (w.heap.size + 1) (rowK 4 a k) 5 ∧ Below w.heap.size w wr) (fun i2 _ => 4 - (intOf i2).toNat)
  case atStart => exact ⟨0, rfl, by omega, (At.new w _ _).alloc _, At.new1 w _ _ _, below_al (below_al (Below.refl _ _) _) _⟩
  case round =>
    obtain ⟨k, rfl, hk, ha, hr, hb⟩ := hrel
    have c1 := ha.c 1 rfl
    have HA := Lib.hid ha
    have HR := Lib.hid hr
    have HB := Lib.hid hb
    have HZ := Lib.hid hr.lt
    clear ha hr hb
    have hcs : k = 0 ∨ k = 1 ∨ k = 2 ∨ k = 3 ∨ k = 4 := by omega
    rcases hcs with rfl | rfl | rfl | rfl | rfl
    · have d0 := HR.out.c 0 (rowK_at 4 a 0 (by omega))
      have f0 := HR.out.f 0
      have z0 := HZ.out
      go_wp2
      go_roundw
      case rel => exact ⟨1, rfl, by omega, HA.out.off (by omega), at_setK HR.out (by omega) (by simp), HB.out.setCell (p := ⟨w.heap.size + 1, 0, none⟩) (by simp) _⟩
      case measure => simp [intOf]
    · have d0 := HR.out.c 1 (rowK_at 4 a 1 (by omega))
      have f0 := HR.out.f 1
      have z0 := HZ.out
      go_wp2
      go_roundw
      case rel => exact ⟨2, rfl, by omega, HA.out.off (by omega), at_setK HR.out (by omega) (by simp), HB.out.setCell (p := ⟨w.heap.size + 1, 1, none⟩) (by simp) _⟩
      case measure => simp [intOf]
    · have d0 := HR.out.c 2 (rowK_at 4 a 2 (by omega))
      have f0 := HR.out.f 2
      have z0 := HZ.out
      go_wp2
      go_roundw
      case rel => exact ⟨3, rfl, by omega, HA.out.off (by omega), at_setK HR.out (by omega) (by simp), HB.out.setCell (p := ⟨w.heap.size + 1, 2, none⟩) (by simp) _⟩
      case measure => simp [intOf]
    · have d0 := HR.out.c 3 (rowK_at 4 a 3 (by omega))
      have f0 := HR.out.f 3
      have z0 := HZ.out
      go_wp2
      go_roundw
      case rel => exact ⟨4, rfl, by omega, HA.out.off (by omega), at_setK HR.out (by omega) (by simp), HB.out.setCell (p := ⟨w.heap.size + 1, 3, none⟩) (by simp) _⟩
      case measure => simp [intOf]
    · go_wp2
      go_ret
      exact ⟨_, by omega, rfl, by rw [← rowK_end]; exact HR.out, HB.out⟩
set_option maxRecDepth 100000 in
set_option maxHeartbeats 1000000 in
theorem split8 (i : Int) (a : Nat) (w : World) : Calls Tryz.prog 39 #[.agg #[.int .i64 i, .int .i64 8], .int .u64 (a : Int)] w (SplitPost 8 a w) := by
  have hmk : ∀ W : World, (Instr.makeSlice 45 (.int .i64 8) (.int .i64 8)).run Tryz.prog W = .ok (.slice (some ⟨W.heap.size, 0, none⟩) 8 8) (W.alloc (.cells (rowK 8 a 0) 5)) := fun W => by
    rw [← rowH_K 8 a]; exact run_make_h W 8 (by omega)
  go_enter Tryz.func39, Tryz.ntmps39
  go_wp2
  clear hmk
  go_loopw [12] (fun i2 wr => ∃ k : Nat, i2 = .int .i64 k ∧ k ≤ 8 ∧ At wr w.heap.size #[.int .i64 i, .int .i64 8] 78 ∧ At wr (w.heap.size + 1) (rowK 8 a k) 5 ∧ Below w.heap.size w wr) (fun i2 _ => 8 - (intOf i2).toNat)
  case atStart => exact ⟨0, rfl, by omega, (At.new w _ _).alloc _, At.new1 w _ _ _, below_al (below_al (Below.refl _ _) _) _⟩
  case round =>
    obtain ⟨k, rfl, hk, ha, hr, hb⟩ := hrel
    have c1 := ha.c 1 rfl
    have HA := Lib.hid ha
    have HR := Lib.hid hr
    have HB := Lib.hid hb
    have HZ := Lib.hid hr.lt
    clear ha hr hb
    have hcs : k = 0 ∨ k = 1 ∨ k = 2 ∨ k = 3 ∨ k = 4 ∨ k = 5 ∨ k = 6 ∨ k = 7 ∨ k = 8 := by omega
    rcases hcs with rfl | rfl | rfl | rfl | rfl | rfl | rfl | rfl | rfl
    · have d0 := HR.out.c 0 (rowK_at 8 a 0 (by omega))
      have f0 := HR.out.f 0
      have z0 := HZ.out
      go_wp2
      go_roundw
      case rel => exact ⟨1, rfl, by omega, HA.out.off (by omega), at_setK HR.out (by omega) (by simp), HB.out.setCell (p := ⟨w.heap.size + 1, 0, none⟩) (by simp) _⟩
      case measure => simp [intOf]
    · have d0 := HR.out.c 1 (rowK_at 8 a 1 (by omega))
      have f0 := HR.out.f 1
      have z0 := HZ.out
      go_wp2
      go_roundw
      case rel => exact ⟨2, rfl, by omega, HA.out.off (by omega), at_setK HR.out (by omega) (by simp), HB.out.setCell (p := ⟨w.heap.size + 1, 1, none⟩) (by simp) _⟩
      case measure => simp [intOf]
    · have d0 := HR.out.c 2 (rowK_at 8 a 2 (by omega))
      have f0 := HR.out.f 2
      have z0 := HZ.out
      go_wp2
      go_roundw
      case rel => exact ⟨3, rfl, by omega, HA.out.off (by omega), at_setK HR.out (by omega) (by simp), HB.out.setCell (p := ⟨w.heap.size + 1, 2, none⟩) (by simp) _⟩
      case measure => simp [intOf]
    · have d0 := HR.out.c 3 (rowK_at 8 a 3 (by omega))
      have f0 := HR.out.f 3
      have z0 := HZ.out
      go_wp2
      go_roundw
      case rel => exact ⟨4, rfl, by omega, HA.out.off (by omega), at_setK HR.out (by omega) (by simp), HB.out.setCell (p := ⟨w.heap.size + 1, 3, none⟩) (by simp) _⟩
      case measure => simp [intOf]
    · have d0 := HR.out.c 4 (rowK_at 8 a 4 (by omega))
      have f0 := HR.out.f 4
      have z0 := HZ.out
      go_wp2
      go_roundw
      case rel => exact ⟨5, rfl, by omega, HA.out.off (by omega), at_setK HR.out (by omega) (by simp), HB.out.setCell (p := ⟨w.heap.size + 1, 4, none⟩) (by simp) _⟩
      case measure => simp [intOf]
    · have d0 := HR.out.c 5 (rowK_at 8 a 5 (by omega))
      have f0 := HR.out.f 5
      have z0 := HZ.out
      go_wp2
      go_roundw
      case rel => exact ⟨6, rfl, by omega, HA.out.off (by omega), at_setK HR.out (by omega) (by simp), HB.out.setCell (p := ⟨w.heap.size + 1, 5, none⟩) (by simp) _⟩
      case measure => simp [intOf]
    · have d0 := HR.out.c 6 (rowK_at 8 a 6 (by omega))
      have f0 := HR.out.f 6
      have z0 := HZ.out
      go_wp2
      go_roundw
      case rel => exact ⟨7, rfl, by omega, HA.out.off (by omega), at_setK HR.out (by omega) (by simp), HB.out.setCell (p := ⟨w.heap.size + 1, 6, none⟩) (by simp) _⟩
      case measure => simp [intOf]
    · have d0 := HR.out.c 7 (rowK_at 8 a 7 (by omega))
      have f0 := HR.out.f 7
      have z0 := HZ.out
      go_wp2
      go_roundw
      case rel => exact ⟨8, rfl, by omega, HA.out.off (by omega), at_setK HR.out (by omega) (by simp), HB.out.setCell (p := ⟨w.heap.size + 1, 7, none⟩) (by simp) _⟩
      case measure => simp [intOf]
    · go_wp2
      go_ret
      exact ⟨_, by omega, rfl, by rw [← rowK_end]; exact HR.out, HB.out⟩
theorem splitQ_calls (i : Int) (n a : Nat) (w : World) (hn : n = 0 ∨ n = 1 ∨ n = 2 ∨ n = 4 ∨ n = 8) : Calls Tryz.prog 39 #[.agg #[.int .i64 i, .int .i64 (n : Int)], .int .u64 (a : Int)] w (SplitPost n a w) := by
  rcases hn with rfl | rfl | rfl | rfl | rfl
  · exact split0 i a w
  · exact split1 i a w
  · exact split2 i a w
  · exact split4 i a w
  · exact split8 i a w
end Go.Proofs.YtppapkpceejnkaaGreatDoor
namespace Go.Proofs.YtppapkpceejnkaaGreatDoor
open Go.RowKit

theorem val_snoc (l : List UInt8) (c : UInt8) : valL (l ++ [c]) = valL l * 256 + c.toNat := by simp [valL]
theorem val_take (l : List UInt8) (k : Nat) (h : k < l.length) : valL (l.take (k + 1)) = valL (l.take k) * 256 + (l.getD k 0).toNat := by
  rw [List.take_succ_eq_append_getElem h, val_snoc, List.getD, List.getElem?_eq_getElem h]; rfl
theorem or_u64 (A c : Nat) (hA : A < 72057594037927936) (hc : c < 256) : bits .or .u64 ((A : Int) * 256) (c : Int) = (A : Int) * 256 + c :=
  bits_join .u64 64 (by decide) (fun n h0 h1 => by rw [IntKind.wrap_u64]; omega) 8 _ _ (by omega) (by omega) (by omega) (by omega) (by omega) (by omega)

set_option maxRecDepth 100000 in
set_option maxHeartbeats 1000000 in
theorem argument_small (i b : Int) (v : Value) (w : World) (hi : 0 ≤ i) (hi2 : i < 24) : Calls Tryz.prog 151 #[.agg #[.int .i64 i, .int .i64 b], v] w fun o w' => o = .returned (.int .u64 i) ∧ Below w.heap.size w w' := by
  go_enter Tryz.func151, Tryz.ntmps151
  go_wp2
  go_ret
  exact ⟨rfl, below_al (Below.refl _ _) _⟩

set_option maxRecDepth 100000 in
set_option maxHeartbeats 1000000 in
theorem argument_big (i b : Int) (g cap : Nat) (l : List UInt8) (w : World) (hi : 24 ≤ i) (hl : l.length ≤ 8) (hg : g < w.heap.size)
    (hc : ∀ j, j < l.length → w.cell? ⟨g, j, none⟩ = some (.int .u8 ((l.getD j 0).toNat : Int))) :
    Calls Tryz.prog 151 #[.agg #[.int .i64 i, .int .i64 b], .slice (some ⟨g, 0, none⟩) l.length cap] w fun o w' => o = .returned (.int .u64 (valL l : Int)) ∧ Below w.heap.size w w' := by
  have hd : decide (i < 24) = false := by simp; omega
  have HC := Lib.hid hc
  have HL := Lib.hid hl
  obtain ⟨n, hn⟩ : ∃ n, n = l.length := ⟨_, rfl⟩
  rw [← hn]
  have HN := Lib.hid hn
  have hn8 : n ≤ 8 := by omega
  clear hc hl hn hi
  go_enter Tryz.func151, Tryz.ntmps151
  go_wp2
  go_loop [5, 16] (fun v x => ∃ (A k : Nat), v = .int .u64 (A : Int) ∧ x = .int .i64 k ∧ k ≤ n ∧ Hid (A = valL (l.take k))) (fun _ x => n - (intOf x).toNat)
  case atStart => exact ⟨0, 0, rfl, rfl, by omega, Lib.hid rfl⟩
  case round =>
    obtain ⟨A, k, rfl, rfl, hk, HA⟩ := hrel
    by_cases hlt : k < n
    · have hA : A < 72057594037927936 := by
        have h1 := valQ_lt (l.take k)
        rw [← HA.out, List.length_take] at h1
        have h2 : 256 ^ (min k l.length) ≤ 256 ^ 7 := Nat.pow_le_pow_right (by decide) (by omega)
        omega
      obtain ⟨c, hcc⟩ : ∃ c, c = (l.getD k 0).toNat := ⟨_, rfl⟩
      have hc2 : c < 256 := by rw [hcc]; exact (l.getD k 0).toNat_lt
      have HV := Lib.hid (show A * 256 + c = valL (l.take (k + 1)) by rw [val_take l k (by rw [← HN.out]; exact hlt), ← HA.out, ← hcc])
      have c0 : w.cell? ⟨g, k, none⟩ = some (.int .u8 (c : Int)) := by
        rw [HC.out k (by rw [← HN.out]; exact hlt), hcc]
      have hor := or_u64 A c hA hc2
      clear hcc
      go_wp2
      go_round
      case rel => exact ⟨A * 256 + c, k + 1, by rw [Int.natCast_add, Int.natCast_mul]; rfl, by go_num, by omega, HV⟩
      case measure => simp [intOf]; omega
    · obtain rfl : k = n := by omega
      go_wp2
      go_ret
      refine ⟨?_, below_al (Below.refl _ _) _⟩
      rw [HA.out, HN.out, List.take_length]
      rfl
/-- What argument answers. -/
def argV (k : Nat) (l : List UInt8) : Nat := if k < 24 then k else valL l
theorem argument_calls (k : Nat) (b : Int) (g cap : Nat) (l : List UInt8) (w : World) (hl : l.length ≤ 8) (hg : g < w.heap.size)
    (hc : ∀ j, j < l.length → w.cell? ⟨g, j, none⟩ = some (.int .u8 ((l.getD j 0).toNat : Int))) :
    Calls Tryz.prog 151 #[.agg #[.int .i64 (k : Int), .int .i64 b], .slice (some ⟨g, 0, none⟩) l.length cap] w fun o w' => o = .returned (.int .u64 (argV k l : Int)) ∧ Below w.heap.size w w' := by
  by_cases h : k < 24
  · rw [argV, if_pos h]
    exact argument_small k b _ w (by omega) (by omega)
  · rw [argV, if_neg h]
    exact argument_big k b g cap l w (by omega) hl hg hc
end Go.Proofs.YtppapkpceejnkaaGreatDoor
