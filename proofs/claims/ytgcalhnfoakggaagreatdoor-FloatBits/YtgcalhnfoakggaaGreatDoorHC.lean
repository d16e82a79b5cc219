/- The program's own: formOf. -/
import Derived.Test.YtgcalhnfoakggaaGreatDoorHB
import Derived.Test.YtgcalhnfoakggaaGreatDoorMh2
import Derived.Test.YtgcalhnfoakggaaGreatDoorRead
namespace Go.Proofs.YtgcalhnfoakggaaGreatDoor
open Go.RowKit Go.Shelf

attribute [local go_sem] Oper.semAt_some

theorem at_kept {A B : World} {row : Option Nat} {b : Nat} {cs : Array Value} {T : TypeId} (hs : At A b cs T) (hg : A.grownBy B row) (hr : ∀ r, row = some r → ∃ o : Obj, A.heap[r]? = some o ∧ o.isCells = false) : At B b cs T :=
  (hg.block b hs.lt (fun e => by obtain ⟨o, ho, hc⟩ := hr b e.symm; rw [show A.heap[b]? = _ from hs] at ho; cases ho; cases hc)).trans hs
theorem at_own (b : Nat) (T : TypeId) {β : Type} (f : β → Array Value) : Own (fun s W => At W b (f s) T) := fun _ _ _ _ hs hg hr => at_kept hs hg hr
theorem At.putObj {A : World} {b l : Nat} {cs : Array Value} {T : TypeId} {o : Obj} (o' : Obj) (hs : At A b cs T) (hl : A.heap[l]? = some o) (ho : o.isCells = false) : At (A.putObj l o') b cs T :=
  at_kept hs (grownBy_putObj' A l o') (fun r e => by cases e; exact ⟨o, hl, ho⟩)

theorem asc_in (n : Nat) (w : World) : CallsIn Fence.wide n Tryz.prog 26 #[] w fun e w' => e = .returned (.func (.func 42) #[] #[]) ∧ w = w' := (callsIn_wide (n := n)).2 (ascending_calls w)
theorem At.set1 {W : World} {B : Nat} {a : Value} {T : TypeId} (h : At W B #[a] T) (x : Value) : At (W.setCell ⟨B, 0, none⟩ x) B #[x] T := heap_setCell_same W B 0 _ _ x h
theorem At.set3 {W : World} {B : Nat} {a b c : Value} {T : TypeId} (h : At W B #[a, b, c] T) (x y z : Value) : At (((W.setCell ⟨B, 0, none⟩ x).setCell ⟨B, 1, none⟩ y).setCell ⟨B, 2, none⟩ z) B #[x, y, z] T := by
  have h1 := heap_setCell_same W B 0 _ _ x h
  have h2 := heap_setCell_same _ B 1 _ _ y h1
  exact heap_setCell_same _ B 2 _ _ z h2
theorem below1 {w W : World} {B : Nat} (h : Below w.heap.size w W) (hB : w.heap.size ≤ B) (a : Value) : Below w.heap.size w (W.setCell ⟨B, 0, none⟩ a) := h.setCell (p := ⟨B, 0, none⟩) hB _
theorem below3 {w W : World} {B : Nat} (h : Below w.heap.size w W) (hB : w.heap.size ≤ B) (a b c : Value) : Below w.heap.size w (((W.setCell ⟨B, 0, none⟩ a).setCell ⟨B, 1, none⟩ b).setCell ⟨B, 2, none⟩ c) :=
  ((h.setCell (p := ⟨B, 0, none⟩) hB _).setCell (p := ⟨B, 1, none⟩) hB _).setCell (p := ⟨B, 2, none⟩) hB _
/-- The form of a width. -/
def frO (wd : Int) : Option (Fin 3) := if wd = 16 then some 0 else if wd = 32 then some 1 else if wd = 64 then some 2 else none
theorem frO_of {x : Fin 3} {wd : Int} (h : frW x = wd) : frO wd = some x := by
  subst h
  match x with
  | 0 => rfl
  | 1 => rfl
  | 2 => rfl
theorem frO_none {wd : Int} (h : ∀ y ∈ ([0, 1, 2] : List (Fin 3)), frW y ≠ wd) : frO wd = none := by
  have h0 := h 0 (by simp)
  have h1 := h 1 (by simp)
  have h2 := h 2 (by simp)
  rw [frO, if_neg (fun e => h0 e.symm), if_neg (fun e => h1 e.symm), if_neg (fun e => h2 e.symm)]
def foV : Option (Fin 3) → Value
  | some x => .tuple #[.agg #[.int .i64 (frK x), .int .i64 (frP x), .int .i64 (frW x)], .bool true]
  | none => .tuple #[.agg #[.int .i64 0, .int .i64 0, .int .i64 0], .bool false]
def zF : Array Value := #[.int .i64 0, .int .i64 0, .int .i64 0]

set_option maxRecDepth 100000 in
set_option maxHeartbeats 600000 in
theorem formOf_calls (wd : Int) (w : World) (hT : FrmT w) : Calls Tryz.prog 22 #[.int .i64 wd] w fun o w' => o = .returned (foV (frO wd)) ∧ Below w.heap.size w w' := by
  have HT := Lib.hid hT
  clear hT
  refine (callsIn_wide (n := 5)).1 ?_
  refine callsIn_of_wp_marks Tryz.func22 rfl trivial ?_ rfl
  simp only [Tryz.ntmps22, List.size_toArray, List.length_cons, List.length_nil, Nat.reduceAdd, Nat.reduceSub, Array.replicate_succ, Array.replicate_zero, List.push_toArray, List.append_toArray, List.nil_append, List.cons_append]
  gi_wp2
  refine scope_in ?_
  gi_wp2
  refine label_in ?_
  gi_wp2_with (refine ⟨trivial, ?_⟩; gi_at_call 26; refine (asc_in _ _).mono ?_; rintro o w1 ⟨rfl, rfl⟩)
  obtain ⟨W0, hW0⟩ : ∃ W0, W0 = (((w.alloc (.cells #[.int .i64 wd] 3)).alloc (.cells #[.int .i64 0, .int .i64 0, .int .i64 0] 42)).alloc (.cells #[.int .i64 0, .int .i64 0, .int .i64 0] 42)).alloc (.cells #[.bool false] 4) := ⟨_, rfl⟩
  have a1 : At W0 w.heap.size #[.int .i64 wd] 3 := by
    rw [hW0]; exact (((At.new w _ _).alloc _).alloc _).alloc _
  have a2 : At W0 (w.heap.size + 1) #[.int .i64 0, .int .i64 0, .int .i64 0] 42 := by
    rw [hW0]; exact ((At.new1 w _ _ _).alloc _).alloc _
  have a3 : At W0 (w.heap.size + 1 + 1) #[.int .i64 0, .int .i64 0, .int .i64 0] 42 := by
    rw [hW0]; exact (At.new2 w _ _ _ _).alloc _
  have a4 : At W0 (w.heap.size + 1 + 1 + 1) #[.bool false] 4 := by
    rw [hW0]
    have := At.new (((w.alloc (.cells #[.int .i64 wd] 3)).alloc (.cells #[.int .i64 0, .int .i64 0, .int .i64 0] 42)).alloc (.cells #[.int .i64 0, .int .i64 0, .int .i64 0] 42)) #[.bool false] 4
    rwa [World.size_alloc, World.size_alloc, World.size_alloc] at this
  have hB0 : Below w.heap.size w W0 := by rw [hW0]; exact below_al (below_al (below_al (below_al (Below.refl _ w) _) _) _) _
  have hs0 : W0.heap.size = w.heap.size + 4 := by rw [hW0]; simp
  rw [← hW0]
  have HS0 := Lib.hid hs0
  have HT0 := Lib.hid (HT.out.below hB0)
  clear hW0 hs0
  refine wpIn_rangeFunc_ownH rfl (by omega) (gf := 42) (lb := #[]) rfl trivial (enters_of Tryz.func42 (by kernel_rfl) rfl)
    (asc_stops (5 - 1) (by omega) _ HT0.out) KeepsWalks.trans (fun W l o o' _ h _ hw => KeepsWalks.putObj o' h hw) (Below.refl _ _) (fun _ => rfl)
    (fun pre W => (((∀ y ∈ pre, frW y ≠ wd) ∧ At W w.heap.size #[.int .i64 wd] 3) ∧ At W (w.heap.size + 1) #[.int .i64 0, .int .i64 0, .int .i64 0] 42 ∧ At W (w.heap.size + 1 + 1) #[.int .i64 0, .int .i64 0, .int .i64 0] 42 ∧ At W (w.heap.size + 1 + 1 + 1) #[.bool false] 4) ∧ Below w.heap.size w W)
    (fun c _ W => (c = .exit 0 ∧ ∃ x : Fin 3, frW x = wd ∧ At W (w.heap.size + 1) #[.int .i64 0, .int .i64 0, .int .i64 0] 42 ∧ At W (w.heap.size + 1 + 1) #[.int .i64 (frK x), .int .i64 (frP x), .int .i64 (frW x)] 42 ∧ At W (w.heap.size + 1 + 1 + 1) #[.bool true] 4) ∧ Below w.heap.size w W)
    (OwnFrom.and (OwnFrom.and (OwnFrom.and (ownFrom_pure _ _) (Own.from (at_own _ _ _) _)) (OwnFrom.and (Own.from (at_own _ _ _) _) (OwnFrom.and (Own.from (at_own _ _ _) _) (Own.from (at_own _ _ _) _)))) (ownFrom_below (Nat.le_refl _) (by rw [HS0.out]; omega)))
    (fun c => OwnFrom.and (fun _ _ _ _ hs hg hr => by
      obtain ⟨h1, x, h2, h3, h4, h5⟩ := hs
      exact ⟨h1, x, h2, at_kept h3 hg (fun r e => (hr r e).2), at_kept h4 hg (fun r e => (hr r e).2), at_kept h5 hg (fun r e => (hr r e).2)⟩) (ownFrom_below (Nat.le_refl _) (by rw [HS0.out]; omega)))
    ⟨⟨⟨by simp, a1⟩, a2, a3, a4⟩, hB0⟩
    (fun x a' W => ∃ C, w.heap.size + 4 ≤ C ∧ At W C #[.int .i64 (frK x), .int .i64 (frP x), .int .i64 (frW x)] 42 ∧ a' = { tmps := #[.int .i64 wd, .pointer (some ⟨w.heap.size, 0, none⟩), .pointer (some ⟨w.heap.size + 1, 0, none⟩), .bool false, .pointer (some ⟨w.heap.size + 1 + 1, 0, none⟩), .pointer (some ⟨w.heap.size + 1 + 1 + 1, 0, none⟩), .pointer (some ⟨C, 0, none⟩), .func (.func 42) #[] #[], .agg #[.int .i64 (frK x), .int .i64 (frP x), .int .i64 (frW x)], undef, undef, undef, undef, undef, undef, undef], defers := [] })
    (fun x a' _ _ _ _ hs hg hr => by
      obtain ⟨C, h1, h2, h3⟩ := hs
      exact ⟨C, h1, at_kept h2 hg (fun r e => (hr r e).2), h3⟩)
    ?_ ?_ ?_ ?_
  · intro l pre x W K hI hK
    have hz : w.heap.size + 4 ≤ W.heap.size := by have := hI.1.2.2.2.lt; omega
    have HI := Lib.hid hI
    have HK := Lib.hid hK
    clear hI hK a1 a2 a3 a4 hB0
    simp only [frV]
    gi_wp2
    obtain ⟨⟨⟨i1, i2⟩, i3, i4, i5⟩, i6⟩ := HI.out
    exact HK.out _ _ ((KeepsOthers.alloc _ _).from _) (KeepsWalks.alloc _ _) ⟨⟨⟨i1, i2.alloc _⟩, i3.alloc _, i4.alloc _, i5.alloc _⟩, below_al i6 _⟩ ⟨_, hz, At.new _ _ _, rfl⟩
  · rintro l pre x a' W hl hlo ⟨⟨⟨i1, i2⟩, i3, i4, i5⟩, i6⟩ ⟨C, hC, h2, rfl⟩ hlen
    have HI1 := Lib.hid i1
    have HI2 := Lib.hid i2
    have HI3 := Lib.hid i3
    have HI4 := Lib.hid i4
    have HI5 := Lib.hid i5
    have HI6 := Lib.hid i6
    have HC := Lib.hid h2
    clear i1 a1 a2 a3 a4 hB0 hlo
    have c0 := i2.c 0 rfl
    have d0 := h2.c 0 rfl
    have d1 := h2.c 1 rfl
    have d2 := h2.c 2 rfl
    by_cases hx : frW x = wd
    · have hxb : (frW x == wd) = true := by simpa using hx
      have g0 := i4.c 0 rfl
      have g1 := i4.c 1 rfl
      have g2 := i4.c 2 rfl
      have f0 := i4.f 0
      have f1 := i4.f 1
      have f2 := i4.f 2
      have k0 := i5.c 0 rfl
      have m0 := i5.f 0
      have z4 := i4.lt
      have z5 := i5.lt
      have HX := Lib.hid hx
      clear hx i2 i3 i4 i5 i6 h2
      gi_wp2
      refine ⟨((((KeepsOthers.setCell _ _ _).trans (KeepsOthers.setCell _ _ _)).trans (KeepsOthers.setCell _ _ _)).trans (KeepsOthers.setCell _ _ _)).from _, ⟨rfl, x, HX.out, ?_, ?_, ?_⟩, below1 (below3 HI6.out (by omega) _ _ _) (by omega) _⟩
      · exact (((HI3.out.off (by omega)).off (by omega)).off (by omega)).off (by omega)
      · exact (HI4.out.set3 _ _ _).off (by omega)
      · exact ((((HI5.out.off (by omega)).off (by omega)).off (by omega))).set1 _
    · have hxb : (frW x == wd) = false := by simpa using hx
      have HX := Lib.hid hx
      clear hx i2 i3 i4 i5 i6 h2
      gi_wp2
      refine ⟨KeepsFrom.refl _ _, KeepsWalks.refl _, ⟨⟨?_, HI2.out⟩, HI3.out, HI4.out, HI5.out⟩, HI6.out⟩
      intro y hy
      rcases List.mem_append.1 hy with h | h
      · exact HI1.out y h
      · simp at h; subst h; exact HX.out
  · rintro D ys W hD rfl ⟨⟨⟨i1, i2⟩, i3, i4, i5⟩, i6⟩ hK
    have HN := Lib.hid (frO_none i1)
    have HI3 := Lib.hid i3
    have HI6 := Lib.hid i6
    have HK := Lib.hid hK
    have g0 := i4.c 0 rfl
    have g1 := i4.c 1 rfl
    have g2 := i4.c 2 rfl
    have k0 := i5.c 0 rfl
    have r0 := i3.c 0 rfl
    have r1 := i3.c 1 rfl
    have r2 := i3.c 2 rfl
    have f0 := i3.f 0
    have f1 := i3.f 1
    have f2 := i3.f 2
    have z3 := i3.lt
    clear i1 i2 i3 i6 hK a1 a2 a3 a4 hB0
    have G4 := Lib.hid i4
    have G5 := Lib.hid i5
    clear i4 i5
    gi_wp2
    refine wpIn_wide.2 ?_
    have HI3d := Lib.hid (show At W.drew _ _ _ from HI3.out)
    have G4d := Lib.hid (show At W.drew _ _ _ from G4.out)
    have G5d := Lib.hid (show At W.drew _ _ _ from G5.out)
    have HKd := Lib.hid (show W.drew.heap[D]? = some (.deferred (some [])) from HK.out)
    clear HI3 G4 G5 HK g0 g1 g2 k0
    go_region_held3 (fun w' => (w'.cell? ⟨w.heap.size + 1 + 1, 0, none⟩ = some (.int .i64 0) ∧ w'.cell? ⟨w.heap.size + 1 + 1, 1, none⟩ = some (.int .i64 0) ∧ w'.cell? ⟨w.heap.size + 1 + 1, 2, none⟩ = some (.int .i64 0)) ∧ w'.cell? ⟨w.heap.size + 1 + 1 + 1, 0, none⟩ = some (.bool false))
      (first
        | exact ⟨⟨G4d.out.c 0 rfl, G4d.out.c 1 rfl, G4d.out.c 2 rfl⟩, G5d.out.c 0 rfl⟩
        | exact ⟨⟨(((G4d.out.off (by omega)).off (by omega)).off (by omega)).c 0 rfl, (((G4d.out.off (by omega)).off (by omega)).off (by omega)).c 1 rfl, (((G4d.out.off (by omega)).off (by omega)).off (by omega)).c 2 rfl⟩, (((G5d.out.off (by omega)).off (by omega)).off (by omega)).c 0 rfl⟩)
      (fail)
    all_goals
      have hd : D ≠ w.heap.size + 1 := by have := HS0.out; omega
      have HR := Lib.hid (show At ((((W.setCell ⟨w.heap.size + 1, 0, none⟩ (.int .i64 0)).setCell ⟨w.heap.size + 1, 1, none⟩ (.int .i64 0)).setCell ⟨w.heap.size + 1, 2, none⟩ (.int .i64 0)).drew) (w.heap.size + 1) #[.int .i64 0, .int .i64 0, .int .i64 0] 42 from At.set3 (W := W) HI3d.out _ _ _)
      have HB := Lib.hid (show Below w.heap.size w ((((W.setCell ⟨w.heap.size + 1, 0, none⟩ (.int .i64 0)).setCell ⟨w.heap.size + 1, 1, none⟩ (.int .i64 0)).setCell ⟨w.heap.size + 1, 2, none⟩ (.int .i64 0)).drew) from (below3 (W := W) HI6.out (by omega) _ _ _).drew)
      have HD := Lib.hid (show ((((W.setCell ⟨w.heap.size + 1, 0, none⟩ (.int .i64 0)).setCell ⟨w.heap.size + 1, 1, none⟩ (.int .i64 0)).setCell ⟨w.heap.size + 1, 2, none⟩ (.int .i64 0)).drew).heap[D]? = some (.deferred (some [])) from
        (heap_setCell_other _ ⟨w.heap.size + 1, 2, none⟩ D _ hd).trans ((heap_setCell_other _ ⟨w.heap.size + 1, 1, none⟩ D _ hd).trans ((heap_setCell_other _ ⟨w.heap.size + 1, 0, none⟩ D _ hd).trans HKd.out)))
      obtain ⟨WX, hWX⟩ : ∃ WX, WX = (((W.setCell ⟨w.heap.size + 1, 0, none⟩ (.int .i64 0)).setCell ⟨w.heap.size + 1, 1, none⟩ (.int .i64 0)).setCell ⟨w.heap.size + 1, 2, none⟩ (.int .i64 0)).drew := ⟨_, rfl⟩
      rw [← hWX] at HR HB HD ⊢
      clear hWX hd r0 r1 r2 f0 f1 f2 z3
      gi_wp2
      refine ⟨by simp, .inl ⟨_, _, rfl, run_takeDeferred HD.out, ?_⟩⟩
      have q := HR.out.putObj (.deferred none) HD.out rfl
      have q0 := q.c 0 rfl
      have q1 := q.c 1 rfl
      have q2 := q.c 2 rfl
      refine ⟨.tuple #[.agg #[.int .i64 0, .int .i64 0, .int .i64 0], .bool false], by simp [results, Tryz.results22, go_sem, q0, q1, q2], ?_⟩
      exact ⟨by rw [HN.out]; rfl, HB.out.trans (belowK_b (w := w) (Nat.le_refl _) _ D _ _ (by have := HS0.out; omega) HD.out rfl rfl)⟩
  · rintro D c pre W hD _ ⟨⟨rfl, x, hx, i3, i4, i5⟩, i6⟩ hK
    have HN := Lib.hid (frO_of hx)
    have HI3 := Lib.hid i3
    have HI6 := Lib.hid i6
    have HK := Lib.hid hK
    have g0 := i4.c 0 rfl
    have g1 := i4.c 1 rfl
    have g2 := i4.c 2 rfl
    have k0 := i5.c 0 rfl
    have r0 := i3.c 0 rfl
    have r1 := i3.c 1 rfl
    have r2 := i3.c 2 rfl
    have f0 := i3.f 0
    have f1 := i3.f 1
    have f2 := i3.f 2
    have z3 := i3.lt
    clear hx i3 i6 hK a1 a2 a3 a4 hB0
    have G4 := Lib.hid i4
    have G5 := Lib.hid i5
    clear i4 i5
    gi_wp2
    refine wpIn_wide.2 ?_
    have HI3d := Lib.hid (show At W.drew _ _ _ from HI3.out)
    have G4d := Lib.hid (show At W.drew _ _ _ from G4.out)
    have G5d := Lib.hid (show At W.drew _ _ _ from G5.out)
    have HKd := Lib.hid (show W.drew.heap[D]? = some (.deferred (some [])) from HK.out)
    clear HI3 G4 G5 HK g0 g1 g2 k0
    go_region_held3 (fun w' => (w'.cell? ⟨w.heap.size + 1 + 1, 0, none⟩ = some (.int .i64 (frK x)) ∧ w'.cell? ⟨w.heap.size + 1 + 1, 1, none⟩ = some (.int .i64 (frP x)) ∧ w'.cell? ⟨w.heap.size + 1 + 1, 2, none⟩ = some (.int .i64 (frW x))) ∧ w'.cell? ⟨w.heap.size + 1 + 1 + 1, 0, none⟩ = some (.bool true))
      (first
        | exact ⟨⟨G4d.out.c 0 rfl, G4d.out.c 1 rfl, G4d.out.c 2 rfl⟩, G5d.out.c 0 rfl⟩
        | exact ⟨⟨(((G4d.out.off (by omega)).off (by omega)).off (by omega)).c 0 rfl, (((G4d.out.off (by omega)).off (by omega)).off (by omega)).c 1 rfl, (((G4d.out.off (by omega)).off (by omega)).off (by omega)).c 2 rfl⟩, (((G5d.out.off (by omega)).off (by omega)).off (by omega)).c 0 rfl⟩)
      (fail)
    all_goals
      have hd : D ≠ w.heap.size + 1 := by have := HS0.out; omega
      have HR := Lib.hid (show At ((((W.setCell ⟨w.heap.size + 1, 0, none⟩ (.int .i64 (frK x))).setCell ⟨w.heap.size + 1, 1, none⟩ (.int .i64 (frP x))).setCell ⟨w.heap.size + 1, 2, none⟩ (.int .i64 (frW x))).drew) (w.heap.size + 1) #[.int .i64 (frK x), .int .i64 (frP x), .int .i64 (frW x)] 42 from At.set3 (W := W) HI3d.out _ _ _)
      have HB := Lib.hid (show Below w.heap.size w ((((W.setCell ⟨w.heap.size + 1, 0, none⟩ (.int .i64 (frK x))).setCell ⟨w.heap.size + 1, 1, none⟩ (.int .i64 (frP x))).setCell ⟨w.heap.size + 1, 2, none⟩ (.int .i64 (frW x))).drew) from (below3 (W := W) HI6.out (by omega) _ _ _).drew)
      have HD := Lib.hid (show ((((W.setCell ⟨w.heap.size + 1, 0, none⟩ (.int .i64 (frK x))).setCell ⟨w.heap.size + 1, 1, none⟩ (.int .i64 (frP x))).setCell ⟨w.heap.size + 1, 2, none⟩ (.int .i64 (frW x))).drew).heap[D]? = some (.deferred (some [])) from
        (heap_setCell_other _ ⟨w.heap.size + 1, 2, none⟩ D _ hd).trans ((heap_setCell_other _ ⟨w.heap.size + 1, 1, none⟩ D _ hd).trans ((heap_setCell_other _ ⟨w.heap.size + 1, 0, none⟩ D _ hd).trans HKd.out)))
      obtain ⟨WX, hWX⟩ : ∃ WX, WX = (((W.setCell ⟨w.heap.size + 1, 0, none⟩ (.int .i64 (frK x))).setCell ⟨w.heap.size + 1, 1, none⟩ (.int .i64 (frP x))).setCell ⟨w.heap.size + 1, 2, none⟩ (.int .i64 (frW x))).drew := ⟨_, rfl⟩
      rw [← hWX] at HR HB HD ⊢
      clear hWX hd r0 r1 r2 f0 f1 f2 z3
      gi_wp2
      refine ⟨by simp, .inl ⟨_, _, rfl, run_takeDeferred HD.out, ?_⟩⟩
      have q := HR.out.putObj (.deferred none) HD.out rfl
      have q0 := q.c 0 rfl
      have q1 := q.c 1 rfl
      have q2 := q.c 2 rfl
      refine ⟨.tuple #[.agg #[.int .i64 (frK x), .int .i64 (frP x), .int .i64 (frW x)], .bool true], by simp [results, Tryz.results22, go_sem, q0, q1, q2], ?_⟩
      exact ⟨by rw [HN.out]; rfl, HB.out.trans (belowK_b (w := w) (Nat.le_refl _) _ D _ _ (by have := HS0.out; omega) HD.out rfl rfl)⟩
end Go.Proofs.YtgcalhnfoakggaaGreatDoor
