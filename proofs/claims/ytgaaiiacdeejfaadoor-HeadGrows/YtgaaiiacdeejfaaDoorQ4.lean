/- The program's own: told. -/
import Derived.Test.YtgaaiiacdeejfaaDoorQ3
import Derived.Deep.RegionHeld3
namespace Go.Proofs.YtgaaiiacdeejfaaDoor
open Go.RowKit Go.Shelf

attribute [local go_sem] Oper.semAt_some

def toV : Option (Fin 4) → Value
  | some x => .tuple #[.agg #[.int .i64 (szI x), .int .i64 (szB x)], .bool true]
  | none => .tuple #[.agg #[.int .i64 0, .int .i64 0], .bool false]
def szO (k : Int) : Option (Fin 4) := if k = 24 then some 0 else if k = 25 then some 1 else if k = 26 then some 2 else if k = 27 then some 3 else none
theorem szO_of {x : Fin 4} {k : Int} (h : szI x = k) : szO k = some x := by
  subst h
  match x with
  | 0 => rfl
  | 1 => rfl
  | 2 => rfl
  | 3 => rfl
theorem szO_none {k : Int} (h : ∀ y ∈ ([0, 1, 2, 3] : List (Fin 4)), szI y ≠ k) : szO k = none := by
  have h0 := h 0 (by simp)
  have h1 := h 1 (by simp)
  have h2 := h 2 (by simp)
  have h3 := h 3 (by simp)
  rw [szO, if_neg (fun e => h0 e.symm), if_neg (fun e => h1 e.symm), if_neg (fun e => h2 e.symm), if_neg (fun e => h3 e.symm)]

set_option maxRecDepth 100000 in
set_option maxHeartbeats 600000 in
theorem told_small (k : Int) (w : World) (hk : k < 24 ∨ k = 31) : Calls Tryd.prog 26 #[.int .i64 k] w fun o w' => o = .returned (.tuple #[.agg #[.int .i64 k, .int .i64 0], .bool true]) ∧ Below w.heap.size w w' := by
  rcases hk with hk | rfl
  · have hd : decide (k < 24) = true := by simp; omega
    go_enter Tryd.func26, Tryd.ntmps26
    go_wp2
    refine wp_scope_straight ?_
    go_wp2
    refine ⟨by simp, ?_⟩
    refine ⟨.tuple #[.agg #[.int .i64 k, .int .i64 0], .bool true], by simp [results, Tryd.results26, go_sem], ?_⟩
    exact ⟨rfl, below_al (below_al (Below.refl _ _) _) _⟩
  · go_enter Tryd.func26, Tryd.ntmps26
    go_wp2
    refine wp_scope_straight ?_
    go_wp2
    refine ⟨by simp, ?_⟩
    refine ⟨.tuple #[.agg #[.int .i64 31, .int .i64 0], .bool true], by simp [results, Tryd.results26, go_sem], ?_⟩
    exact ⟨rfl, below_al (below_al (Below.refl _ _) _) _⟩

set_option maxRecDepth 100000 in
set_option maxHeartbeats 600000 in
theorem told_big (k : Int) (w : World) (h24 : 24 ≤ k) (h31 : k ≠ 31) (hT : SizT w) : Calls Tryd.prog 26 #[.int .i64 k] w fun o w' => o = .returned (toV (szO k)) ∧ Below w.heap.size w w' := by
  have HT := Lib.hid hT
  have hd : decide (k < 24) = false := by simp; omega
  have he : (k == 31) = false := by simpa using h31
  clear hT h24 h31
  refine (callsIn_wide (n := 5)).1 ?_
  refine callsIn_of_wp_marks Tryd.func26 rfl trivial ?_ rfl
  simp only [Tryd.ntmps26, List.size_toArray, List.length_cons, List.length_nil, Nat.reduceAdd, Nat.reduceSub, Array.replicate_succ, Array.replicate_zero, List.push_toArray, List.append_toArray, List.nil_append, List.cons_append]
  gi_wp2
  refine scope_in ?_
  gi_wp2
  refine label_in ?_
  gi_wp2_with (refine ⟨trivial, ?_⟩; gi_at_call 29; refine (sizs_in _ _).mono ?_; rintro o w1 ⟨rfl, rfl⟩)
  obtain ⟨W0, hW0⟩ : ∃ W0, W0 = (((w.alloc (.cells #[.int .i64 k] 3)).alloc (.cells #[.int .i64 0, .int .i64 0] 41)).alloc (.cells #[.int .i64 0, .int .i64 0] 41)).alloc (.cells #[.bool false] 4) := ⟨_, rfl⟩
  have a1 : At W0 w.heap.size #[.int .i64 k] 3 := by
    rw [hW0]; exact (((At.new w _ _).alloc _).alloc _).alloc _
  have a2 : At W0 (w.heap.size + 1) #[.int .i64 0, .int .i64 0] 41 := by
    rw [hW0]; exact ((At.new1 w _ _ _).alloc _).alloc _
  have a3 : At W0 (w.heap.size + 1 + 1) #[.int .i64 0, .int .i64 0] 41 := by
    rw [hW0]; exact (At.new2 w _ _ _ _).alloc _
  have a4 : At W0 (w.heap.size + 1 + 1 + 1) #[.bool false] 4 := by
    rw [hW0]
    have := At.new (((w.alloc (.cells #[.int .i64 k] 3)).alloc (.cells #[.int .i64 0, .int .i64 0] 41)).alloc (.cells #[.int .i64 0, .int .i64 0] 41)) #[.bool false] 4
    rwa [World.size_alloc, World.size_alloc, World.size_alloc] at this
  have hB0 : Below w.heap.size w W0 := by rw [hW0]; exact below_al (below_al (below_al (below_al (Below.refl _ w) _) _) _) _
  have hs0 : W0.heap.size = w.heap.size + 4 := by rw [hW0]; simp
  rw [← hW0]
  have HS0 := Lib.hid hs0
  have HT0 := Lib.hid (HT.out.below hB0)
  clear hW0 hs0
  refine wpIn_rangeFunc_ownH rfl (by omega) (gf := 31) (lb := #[]) rfl trivial (enters_of Tryd.func31 (by kernel_rfl) rfl)
    (sizs_stops (5 - 1) (by omega) _ HT0.out) KeepsWalks.trans (fun W l o o' _ h _ hw => KeepsWalks.putObj o' h hw) (Below.refl _ _) (fun _ => rfl)
    (fun pre W => (((∀ y ∈ pre, szI y ≠ k) ∧ At W w.heap.size #[.int .i64 k] 3) ∧ At W (w.heap.size + 1) #[.int .i64 0, .int .i64 0] 41 ∧ At W (w.heap.size + 1 + 1) #[.int .i64 0, .int .i64 0] 41 ∧ At W (w.heap.size + 1 + 1 + 1) #[.bool false] 4) ∧ Below w.heap.size w W)
    (fun c _ W => (c = .exit 0 ∧ ∃ x : Fin 4, szI x = k ∧ At W (w.heap.size + 1) #[.int .i64 0, .int .i64 0] 41 ∧ At W (w.heap.size + 1 + 1) #[.int .i64 (szI x), .int .i64 (szB x)] 41 ∧ At W (w.heap.size + 1 + 1 + 1) #[.bool true] 4) ∧ Below w.heap.size w W)
    (OwnFrom.and (OwnFrom.and (OwnFrom.and (ownFrom_pure _ _) (Own.from (at_own _ _ _) _)) (OwnFrom.and (Own.from (at_own _ _ _) _) (OwnFrom.and (Own.from (at_own _ _ _) _) (Own.from (at_own _ _ _) _)))) (ownFrom_below (Nat.le_refl _) (by rw [HS0.out]; omega)))
    (fun c => OwnFrom.and (fun _ _ _ _ hs hg hr => by
      obtain ⟨h1, x, h2, h3, h4, h5⟩ := hs
      exact ⟨h1, x, h2, at_kept h3 hg (fun r e => (hr r e).2), at_kept h4 hg (fun r e => (hr r e).2), at_kept h5 hg (fun r e => (hr r e).2)⟩) (ownFrom_below (Nat.le_refl _) (by rw [HS0.out]; omega)))
    ⟨⟨⟨by simp, a1⟩, a2, a3, a4⟩, hB0⟩
    (fun x a' W => ∃ C, w.heap.size + 4 ≤ C ∧ At W C #[.int .i64 (szI x), .int .i64 (szB x)] 41 ∧ a' = { tmps := #[.int .i64 k, .pointer (some ⟨w.heap.size, 0, none⟩), .pointer (some ⟨w.heap.size + 1, 0, none⟩), .bool false, .pointer (some ⟨w.heap.size + 1 + 1, 0, none⟩), .pointer (some ⟨w.heap.size + 1 + 1 + 1, 0, none⟩), .pointer (some ⟨C, 0, none⟩), .int .i64 k, .bool false, .bool false, .int .i64 k, .bool false, .bool false, undef, undef, .func (.func 31) #[] #[], .agg #[.int .i64 (szI x), .int .i64 (szB x)], undef, undef, undef, undef, undef, undef, undef], defers := [] })
    (fun x a' _ _ _ _ hs hg hr => by
      obtain ⟨C, h1, h2, h3⟩ := hs
      exact ⟨C, h1, at_kept h2 hg (fun r e => (hr r e).2), h3⟩)
    ?_ ?_ ?_ ?_
  · intro l pre x W K hI hK
    have hz : w.heap.size + 4 ≤ W.heap.size := by have := hI.1.2.2.2.lt; omega
    have HI := Lib.hid hI
    have HK := Lib.hid hK
    clear hI hK a1 a2 a3 a4 hB0
    simp only [szV]
    gi_wp2
    obtain ⟨⟨⟨i1, i2⟩, i3, i4, i5⟩, i6⟩ := HI.out
    exact HK.out _ _ ((KeepsOthers.alloc _ _).from _) (KeepsWalks.alloc _ _) ⟨⟨⟨i1, i2.alloc _⟩, i3.alloc _, i4.alloc _, i5.alloc _⟩, below_al i6 _⟩ ⟨_, hz, At.new _ _ _, rfl⟩
  · rintro l pre x a' W hl hlo ⟨⟨⟨i1, i2⟩, i3, i4, i5⟩, i6⟩ ⟨C, hC, h2, rfl⟩ hlen
    have HI1 := Lib.hid i1
    have HI2 := Lib.hid i2
    have HI3 := Lib.hid i3
    have HI4 := Lib.hid i4
    have HI5 := Lib.hid i5
    have HI6 := Lib.hid i6
    have HC := Lib.hid h2
    clear i1 a1 a2 a3 a4 hB0 hlo hd he
    have c0 := i2.c 0 rfl
    have d0 := h2.c 0 rfl
    have d1 := h2.c 1 rfl
    by_cases hx : szI x = k
    · have hxb : (szI x == k) = true := by simpa using hx
      have g0 := i4.c 0 rfl
      have g1 := i4.c 1 rfl
      have f0 := i4.f 0
      have f1 := i4.f 1
      have k0 := i5.c 0 rfl
      have m0 := i5.f 0
      have z4 := i4.lt
      have z5 := i5.lt
      have HX := Lib.hid hx
      clear hx i2 i3 i4 i5 i6 h2
      gi_wp2
      refine ⟨(((KeepsOthers.setCell _ _ _).trans (KeepsOthers.setCell _ _ _)).trans (KeepsOthers.setCell _ _ _)).from _, ⟨rfl, x, HX.out, ?_, ?_, ?_⟩, below1 (below2 HI6.out (by omega) _ _) (by omega) _⟩
      · exact ((HI3.out.off (by omega)).off (by omega)).off (by omega)
      · exact (HI4.out.set2 _ _).off (by omega)
      · exact ((HI5.out.off (by omega)).off (by omega)).set1 _
    · have hxb : (szI x == k) = false := by simpa using hx
      have HX := Lib.hid hx
      clear hx i2 i3 i4 i5 i6 h2
      gi_wp2
      refine ⟨KeepsFrom.refl _ _, KeepsWalks.refl _, ⟨⟨?_, HI2.out⟩, HI3.out, HI4.out, HI5.out⟩, HI6.out⟩
      intro y hy
      rcases List.mem_append.1 hy with h | h
      · exact HI1.out y h
      · simp at h; subst h; exact HX.out
  · rintro D ys W hD rfl ⟨⟨⟨i1, i2⟩, i3, i4, i5⟩, i6⟩ hK
    have HN := Lib.hid (szO_none i1)
    have HI3 := Lib.hid i3
    have HI6 := Lib.hid i6
    have HK := Lib.hid hK
    have g0 := i4.c 0 rfl
    have g1 := i4.c 1 rfl
    have k0 := i5.c 0 rfl
    have r0 := i3.c 0 rfl
    have r1 := i3.c 1 rfl
    have f0 := i3.f 0
    have f1 := i3.f 1
    have z3 := i3.lt
    clear i1 i2 i3 i6 hK a1 a2 a3 a4 hB0 hd he
    have G4 := Lib.hid i4
    have G5 := Lib.hid i5
    clear i4 i5
    gi_wp2
    refine wpIn_wide.2 ?_
    have HI3d := Lib.hid (show At W.drew _ _ _ from HI3.out)
    have G4d := Lib.hid (show At W.drew _ _ _ from G4.out)
    have G5d := Lib.hid (show At W.drew _ _ _ from G5.out)
    have HKd := Lib.hid (show W.drew.heap[D]? = some (.deferred (some [])) from HK.out)
    clear HI3 G4 G5 HK g0 g1 k0
    go_region_held3 (fun w' => (w'.cell? ⟨w.heap.size + 1 + 1, 0, none⟩ = some (.int .i64 0) ∧ w'.cell? ⟨w.heap.size + 1 + 1, 1, none⟩ = some (.int .i64 0)) ∧ w'.cell? ⟨w.heap.size + 1 + 1 + 1, 0, none⟩ = some (.bool false))
      (first
        | exact ⟨⟨G4d.out.c 0 rfl, G4d.out.c 1 rfl⟩, G5d.out.c 0 rfl⟩
        | exact ⟨⟨((G4d.out.off (by omega)).off (by omega)).c 0 rfl, ((G4d.out.off (by omega)).off (by omega)).c 1 rfl⟩, ((G5d.out.off (by omega)).off (by omega)).c 0 rfl⟩)
      (fail)
    all_goals
      have hd : D ≠ w.heap.size + 1 := by have := HS0.out; omega
      have HR := Lib.hid (show At (((W.setCell ⟨w.heap.size + 1, 0, none⟩ (.int .i64 0)).setCell ⟨w.heap.size + 1, 1, none⟩ (.int .i64 0)).drew) (w.heap.size + 1) #[.int .i64 0, .int .i64 0] 41 from At.set2 (W := W) HI3d.out _ _)
      have HB := Lib.hid (show Below w.heap.size w (((W.setCell ⟨w.heap.size + 1, 0, none⟩ (.int .i64 0)).setCell ⟨w.heap.size + 1, 1, none⟩ (.int .i64 0)).drew) from (below2 (W := W) HI6.out (by omega) _ _).drew)
      have HD := Lib.hid (show (((W.setCell ⟨w.heap.size + 1, 0, none⟩ (.int .i64 0)).setCell ⟨w.heap.size + 1, 1, none⟩ (.int .i64 0)).drew).heap[D]? = some (.deferred (some [])) from
        (heap_setCell_other _ ⟨w.heap.size + 1, 1, none⟩ D _ hd).trans ((heap_setCell_other _ ⟨w.heap.size + 1, 0, none⟩ D _ hd).trans HKd.out))
      obtain ⟨WX, hWX⟩ : ∃ WX, WX = ((W.setCell ⟨w.heap.size + 1, 0, none⟩ (.int .i64 0)).setCell ⟨w.heap.size + 1, 1, none⟩ (.int .i64 0)).drew := ⟨_, rfl⟩
      rw [← hWX] at HR HB HD ⊢
      clear hWX hd r0 r1 f0 f1 z3
      gi_wp2
      refine ⟨by simp, .inl ⟨_, _, rfl, run_takeDeferred HD.out, ?_⟩⟩
      have q := HR.out.putObj (.deferred none) HD.out rfl
      have q0 := q.c 0 rfl
      have q1 := q.c 1 rfl
      refine ⟨.tuple #[.agg #[.int .i64 0, .int .i64 0], .bool false], by simp [results, Tryd.results26, go_sem, q0, q1], ?_⟩
      exact ⟨by rw [HN.out]; rfl, HB.out.trans (belowK_b (w := w) (Nat.le_refl _) _ D _ _ (by have := HS0.out; omega) HD.out rfl rfl)⟩
  · rintro D c pre W hD _ ⟨⟨rfl, x, hx, i3, i4, i5⟩, i6⟩ hK
    have HN := Lib.hid (szO_of hx)
    have HI3 := Lib.hid i3
    have HI6 := Lib.hid i6
    have HK := Lib.hid hK
    have g0 := i4.c 0 rfl
    have g1 := i4.c 1 rfl
    have k0 := i5.c 0 rfl
    have r0 := i3.c 0 rfl
    have r1 := i3.c 1 rfl
    have f0 := i3.f 0
    have f1 := i3.f 1
    have z3 := i3.lt
    clear hx i3 i6 hK a1 a2 a3 a4 hB0 hd he
    have G4 := Lib.hid i4
    have G5 := Lib.hid i5
    clear i4 i5
    gi_wp2
    refine wpIn_wide.2 ?_
    have HI3d := Lib.hid (show At W.drew _ _ _ from HI3.out)
    have G4d := Lib.hid (show At W.drew _ _ _ from G4.out)
    have G5d := Lib.hid (show At W.drew _ _ _ from G5.out)
    have HKd := Lib.hid (show W.drew.heap[D]? = some (.deferred (some [])) from HK.out)
    clear HI3 G4 G5 HK g0 g1 k0
    go_region_held3 (fun w' => (w'.cell? ⟨w.heap.size + 1 + 1, 0, none⟩ = some (.int .i64 (szI x)) ∧ w'.cell? ⟨w.heap.size + 1 + 1, 1, none⟩ = some (.int .i64 (szB x))) ∧ w'.cell? ⟨w.heap.size + 1 + 1 + 1, 0, none⟩ = some (.bool true))
      (first
        | exact ⟨⟨G4d.out.c 0 rfl, G4d.out.c 1 rfl⟩, G5d.out.c 0 rfl⟩
        | exact ⟨⟨((G4d.out.off (by omega)).off (by omega)).c 0 rfl, ((G4d.out.off (by omega)).off (by omega)).c 1 rfl⟩, ((G5d.out.off (by omega)).off (by omega)).c 0 rfl⟩)
      (fail)
    all_goals
      have hd : D ≠ w.heap.size + 1 := by have := HS0.out; omega
      have HR := Lib.hid (show At (((W.setCell ⟨w.heap.size + 1, 0, none⟩ (.int .i64 (szI x))).setCell ⟨w.heap.size + 1, 1, none⟩ (.int .i64 (szB x))).drew) (w.heap.size + 1) #[.int .i64 (szI x), .int .i64 (szB x)] 41 from At.set2 (W := W) HI3d.out _ _)
      have HB := Lib.hid (show Below w.heap.size w (((W.setCell ⟨w.heap.size + 1, 0, none⟩ (.int .i64 (szI x))).setCell ⟨w.heap.size + 1, 1, none⟩ (.int .i64 (szB x))).drew) from (below2 (W := W) HI6.out (by omega) _ _).drew)
      have HD := Lib.hid (show (((W.setCell ⟨w.heap.size + 1, 0, none⟩ (.int .i64 (szI x))).setCell ⟨w.heap.size + 1, 1, none⟩ (.int .i64 (szB x))).drew).heap[D]? = some (.deferred (some [])) from
        (heap_setCell_other _ ⟨w.heap.size + 1, 1, none⟩ D _ hd).trans ((heap_setCell_other _ ⟨w.heap.size + 1, 0, none⟩ D _ hd).trans HKd.out))
      obtain ⟨WX, hWX⟩ : ∃ WX, WX = ((W.setCell ⟨w.heap.size + 1, 0, none⟩ (.int .i64 (szI x))).setCell ⟨w.heap.size + 1, 1, none⟩ (.int .i64 (szB x))).drew := ⟨_, rfl⟩
      rw [← hWX] at HR HB HD ⊢
      clear hWX hd r0 r1 f0 f1 z3
      gi_wp2
      refine ⟨by simp, .inl ⟨_, _, rfl, run_takeDeferred HD.out, ?_⟩⟩
      have q := HR.out.putObj (.deferred none) HD.out rfl
      have q0 := q.c 0 rfl
      have q1 := q.c 1 rfl
      refine ⟨.tuple #[.agg #[.int .i64 (szI x), .int .i64 (szB x)], .bool true], by simp [results, Tryd.results26, go_sem, q0, q1], ?_⟩
      exact ⟨by rw [HN.out]; rfl, HB.out.trans (belowK_b (w := w) (Nat.le_refl _) _ D _ _ (by have := HS0.out; omega) HD.out rfl rfl)⟩
/-- What told answers. -/
def toldV (k : Nat) : Value := match nby k with
  | some n => .tuple #[.agg #[.int .i64 (k : Int), .int .i64 (n : Int)], .bool true]
  | none => .tuple #[.agg #[.int .i64 0, .int .i64 0], .bool false]
theorem told_calls (k : Nat) (w : World) (hk : k < 32) (hT : SizT w) : Calls Tryd.prog 26 #[.int .i64 (k : Int)] w fun o w' => o = .returned (toldV k) ∧ Below w.heap.size w w' := by
  by_cases h : k < 24 ∨ k = 31
  · have e : nby k = some 0 := by
      unfold nby
      rcases h with h | rfl
      · rw [if_pos h]
      · rfl
    rw [toldV, e]
    exact told_small k w (by omega)
  · have e : toldV k = toV (szO (k : Int)) := by
      have : k = 24 ∨ k = 25 ∨ k = 26 ∨ k = 27 ∨ k = 28 ∨ k = 29 ∨ k = 30 := by omega
      rcases this with rfl | rfl | rfl | rfl | rfl | rfl | rfl <;> rfl
    rw [e]
    exact told_big k w (by omega) (by omega) hT
end Go.Proofs.YtgaaiiacdeejfaaDoor
