/- The program's own: the iterator of forms. The program's own: formOf. The program's own: Widen, Narrow, IsWidth, IsFinite. The program's own: Least. -/
import Derived.Test.YtppapkpceejnkaaGreatDoorMg
import Derived.LoopNIn
import Derived.RangeFuncKeeps
import Derived.RangeFuncWrites
import Derived.RangeFuncNested
import Derived.Laws.PanicsMore
import Derived.Test.YtppapkpceejnkaaGreatDoorMh
import Derived.Test.YtppapkpceejnkaaGreatDoorMd

namespace Go.Proofs.YtppapkpceejnkaaGreatDoor
open Go.RowKit Go.Shelf

attribute [local go_sem] Oper.semAt_some

/-- The three forms, in their order. -/
def frK : Fin 3 → Int | 0 => 5 | 1 => 8 | 2 => 11
def frP : Fin 3 → Int | 0 => 10 | 1 => 23 | 2 => 52
def frW : Fin 3 → Int | 0 => 16 | 1 => 32 | 2 => 64
def frV (x : Fin 3) : Value := .agg #[.int .i64 (frK x), .int .i64 (frP x), .int .i64 (frW x)]
theorem ix0 (w : World) : (Instr.index 265 (.agg #[.int .i64 5, .int .i64 10, .int .i64 16, .int .i64 8, .int .i64 23, .int .i64 32, .int .i64 11, .int .i64 52, .int .i64 64]) (.int .i64 0)).run Tryz.prog w = .ok (.agg #[.int .i64 5, .int .i64 10, .int .i64 16]) w := by
  simp [Instr.index, run_underlying Tryz.underlying265, asIntOf, go_sem, part, Tryz.sizeOf227, Tryz.isAgg227]
theorem ix1 (w : World) : (Instr.index 265 (.agg #[.int .i64 5, .int .i64 10, .int .i64 16, .int .i64 8, .int .i64 23, .int .i64 32, .int .i64 11, .int .i64 52, .int .i64 64]) (.int .i64 1)).run Tryz.prog w = .ok (.agg #[.int .i64 8, .int .i64 23, .int .i64 32]) w := by
  simp [Instr.index, run_underlying Tryz.underlying265, asIntOf, go_sem, part, Tryz.sizeOf227, Tryz.isAgg227]
theorem ix2 (w : World) : (Instr.index 265 (.agg #[.int .i64 5, .int .i64 10, .int .i64 16, .int .i64 8, .int .i64 23, .int .i64 32, .int .i64 11, .int .i64 52, .int .i64 64]) (.int .i64 2)).run Tryz.prog w = .ok (.agg #[.int .i64 11, .int .i64 52, .int .i64 64]) w := by
  simp [Instr.index, run_underlying Tryz.underlying265, asIntOf, go_sem, part, Tryz.sizeOf227, Tryz.isAgg227]

set_option maxRecDepth 100000 in
set_option maxHeartbeats 600000 in
theorem asc1_in (n : Nat) (hn : 1 ≤ n) (l : Nat) (J Jx : List (Fin 3) → World → Prop)
    (hY : ∀ pre x W, J pre W → pre.length < 3 → YieldAt Fence.wide (n - 1) Tryz.prog l #[frV x] W fun e W' =>
      (e = .returned (.bool true) ∧ J (pre ++ [x]) W' ∧ KeepsWalks W W') ∨ (e = .returned (.bool false) ∧ Jx (pre ++ [x]) W'))
    (W : World) (hJ : AbidesFrom W.heap.size J) (hT : FrmT W) (h0 : J [] W) :
    CallsIn Fence.wide n Tryz.prog 206 #[.func (.yield l) #[] #[]] W fun e W' => (∃ v, e = .returned v) ∧
      ((∃ ys, ys = [0, 1, 2] ∧ J ys W') ∨ (∃ pre, (pre = [0] ∨ pre = [0, 1] ∨ pre = [0, 1, 2]) ∧ Jx pre W')) := by
  have c0 : W.cell? ⟨4, 0, none⟩ = some (.int .i64 5) := hT.cell 0 (by decide)
  have c1 : W.cell? ⟨4, 1, none⟩ = some (.int .i64 10) := hT.cell 1 (by decide)
  have c2 : W.cell? ⟨4, 2, none⟩ = some (.int .i64 16) := hT.cell 2 (by decide)
  have c3 : W.cell? ⟨4, 3, none⟩ = some (.int .i64 8) := hT.cell 3 (by decide)
  have c4 : W.cell? ⟨4, 4, none⟩ = some (.int .i64 23) := hT.cell 4 (by decide)
  have c5 : W.cell? ⟨4, 5, none⟩ = some (.int .i64 32) := hT.cell 5 (by decide)
  have c6 : W.cell? ⟨4, 6, none⟩ = some (.int .i64 11) := hT.cell 6 (by decide)
  have c7 : W.cell? ⟨4, 7, none⟩ = some (.int .i64 52) := hT.cell 7 (by decide)
  have c8 : W.cell? ⟨4, 8, none⟩ = some (.int .i64 64) := hT.cell 8 (by decide)
  have HY := Lib.hid hY
  have HJ := Lib.hid hJ
  have H0 := Lib.hid h0
  clear hY hJ hT h0
  refine callsIn_of_wp Tryz.func206 rfl trivial ?_ rfl
  simp only [Tryz.ntmps206, List.size_toArray, List.length_cons, List.length_nil, Nat.reduceAdd, Nat.reduceSub, Array.replicate_succ, Array.replicate_zero, List.push_toArray, List.append_toArray, List.nil_append, List.cons_append]
  gi_wp2
  refine wpIn_loop_rounds 4 ?_
  clear c0 c1 c2 c3 c4 c5 c6 c7 c8
  rw [roundsIn_succ]
  have hix := ix0
  have hj0 := HJ.out [] W (W.alloc (.cells #[.int .i64 5, .int .i64 10, .int .i64 16] 227)) none H0.out (World.grownBy_alloc W _ none) (fun r e => by cases e)
  obtain ⟨fn0, tm0, as0, bo0, hy0, hR0⟩ := HY.out [] 0 _ hj0 (by decide)
  simp only [frV, frK, frP, frW] at hy0 hR0
  have HR0 := Lib.hid hR0
  clear hR0 hj0
  gi_wp2
  refine HR0.out.mono ?_
  rintro e W1 (⟨rfl, hj, hk⟩ | ⟨rfl, hx⟩)
  rotate_left 1
  · have HX := Lib.hid hx
    clear hx
    gi_wp2
    refine bodyPost_ret (results_none rfl _ _ _) rfl ?_
    exact ⟨⟨_, rfl⟩, .inr ⟨_, .inl rfl, HX.out⟩⟩
  have J1 := Lib.hid hj
  clear hj hk hix hy0 HR0
  gi_wp2
  rw [roundsIn_succ]
  have hix := ix1
  have hj1 := HJ.out [0] W1 (W1.alloc (.cells #[.int .i64 8, .int .i64 23, .int .i64 32] 227)) none J1.out (World.grownBy_alloc W1 _ none) (fun r e => by cases e)
  obtain ⟨fn1, tm1, as1, bo1, hy1, hR1⟩ := HY.out [0] 1 _ hj1 (by decide)
  simp only [frV, frK, frP, frW] at hy1 hR1
  have HR1 := Lib.hid hR1
  clear hR1 hj1
  gi_wp2
  refine HR1.out.mono ?_
  rintro e W2 (⟨rfl, hj, hk⟩ | ⟨rfl, hx⟩)
  rotate_left 1
  · have HX := Lib.hid hx
    clear hx
    gi_wp2
    refine bodyPost_ret (results_none rfl _ _ _) rfl ?_
    exact ⟨⟨_, rfl⟩, .inr ⟨_, .inr (.inl rfl), HX.out⟩⟩
  have J2 := Lib.hid hj
  clear hj hk hix hy1 HR1
  gi_wp2
  rw [roundsIn_succ]
  have hix := ix2
  have hj2 := HJ.out [0, 1] W2 (W2.alloc (.cells #[.int .i64 11, .int .i64 52, .int .i64 64] 227)) none J2.out (World.grownBy_alloc W2 _ none) (fun r e => by cases e)
  obtain ⟨fn2, tm2, as2, bo2, hy2, hR2⟩ := HY.out [0, 1] 2 _ hj2 (by decide)
  simp only [frV, frK, frP, frW] at hy2 hR2
  have HR2 := Lib.hid hR2
  clear hR2 hj2
  gi_wp2
  refine HR2.out.mono ?_
  rintro e W3 (⟨rfl, hj, hk⟩ | ⟨rfl, hx⟩)
  rotate_left 1
  · have HX := Lib.hid hx
    clear hx
    gi_wp2
    refine bodyPost_ret (results_none rfl _ _ _) rfl ?_
    exact ⟨⟨_, rfl⟩, .inr ⟨_, .inr (.inr rfl), HX.out⟩⟩
  have J3 := Lib.hid hj
  clear hj hk hix hy2 HR2
  gi_wp2
  rw [roundsIn_succ]
  gi_wp2
  go_end0
  exact ⟨⟨_, rfl⟩, .inl ⟨_, rfl, J3.out⟩⟩

theorem asc_stops (n : Nat) (hn : 1 ≤ n) (w : World) (hT : FrmT w) :
    SeqStopsK Fence.wide n Tryz.prog 206 #[] (fun x : Fin 3 => #[frV x]) KeepsWalks (fun ys => ys = [0, 1, 2]) (fun pre => pre = [0] ∨ pre = [0, 1] ∨ pre = [0, 1, 2]) 3 w := fun l J Jx W hW hJ _ hY h0 =>
  asc1_in n hn l J Jx hY W hJ (hT.below hW) h0
set_option maxHeartbeats 400000 in
theorem ascending_calls (w : World) : Calls Tryz.prog 174 #[] w fun e w' => e = .returned (.func (.func 206) #[] #[]) ∧ w = w' := by
  go_enter Tryz.func174, Tryz.ntmps174
  go_wp2
  go_ret
  exact ⟨rfl, rfl⟩
end Go.Proofs.YtppapkpceejnkaaGreatDoor

namespace Go.Proofs.YtppapkpceejnkaaGreatDoor
open Go.RowKit Go.Shelf

attribute [local go_sem] Oper.semAt_some

theorem at_kept {A B : World} {row : Option Nat} {b : Nat} {cs : Array Value} {T : TypeId} (hs : At A b cs T) (hg : A.grownBy B row) (hr : ∀ r, row = some r → ∃ o : Obj, A.heap[r]? = some o ∧ o.isCells = false) : At B b cs T :=
  (hg.block b hs.lt (fun e => by obtain ⟨o, ho, hc⟩ := hr b e.symm; rw [show A.heap[b]? = _ from hs] at ho; cases ho; cases hc)).trans hs
theorem at_own (b : Nat) (T : TypeId) {β : Type} (f : β → Array Value) : Own (fun s W => At W b (f s) T) := fun _ _ _ _ hs hg hr => at_kept hs hg hr
theorem At.putObj {A : World} {b l : Nat} {cs : Array Value} {T : TypeId} {o : Obj} (o' : Obj) (hs : At A b cs T) (hl : A.heap[l]? = some o) (ho : o.isCells = false) : At (A.putObj l o') b cs T :=
  at_kept hs (grownBy_putObj' A l o') (fun r e => by cases e; exact ⟨o, hl, ho⟩)

theorem asc_in (n : Nat) (w : World) : CallsIn Fence.wide n Tryz.prog 174 #[] w fun e w' => e = .returned (.func (.func 206) #[] #[]) ∧ w = w' := (callsIn_wide (n := n)).2 (ascending_calls w)
theorem At.set1 {W : World} {B : Nat} {a : Value} {T : TypeId} (h : At W B #[a] T) (x : Value) : At (W.setCell ⟨B, 0, none⟩ x) B #[x] T := heap_setCell_same W B 0 _ _ x h
theorem At.set3 {W : World} {B : Nat} {a b c : Value} {T : TypeId} (h : At W B #[a, b, c] T) (x y z : Value) : At (((W.setCell ⟨B, 0, none⟩ x).setCell ⟨B, 1, none⟩ y).setCell ⟨B, 2, none⟩ z) B #[x, y, z] T := by
  have h1 := heap_setCell_same W B 0 _ _ x h
  have h2 := heap_setCell_same _ B 1 _ _ y h1
  exact heap_setCell_same _ B 2 _ _ z h2
theorem below1 {w W : World} {B : Nat} (h : Below w.heap.size w W) (hB : w.heap.size ≤ B) (a : Value) : Below w.heap.size w (W.setCell ⟨B, 0, none⟩ a) := h.setCell (p := ⟨B, 0, none⟩) hB _
theorem below3 {w W : World} {B : Nat} (h : Below w.heap.size w W) (hB : w.heap.size ≤ B) (a b c : Value) : Below w.heap.size w (((W.setCell ⟨B, 0, none⟩ a).setCell ⟨B, 1, none⟩ b).setCell ⟨B, 2, none⟩ c) :=
  ((h.setCell (p := ⟨B, 0, none⟩) hB _).setCell (p := ⟨B, 1, none⟩) hB _).setCell (p := ⟨B, 2, none⟩) hB _
/-- The form of a width. -/
def frO (wd : Int) : Option (Fin 3) := if wd = 16 then some 0 else if wd = 32 then some 1 else if wd = 64 then some 2 else none
theorem frO_of {x : Fin 3} {wd : Int} (h : frW x = wd) : frO wd = some x := by
  subst h
  match x with
  | 0 => rfl
  | 1 => rfl
  | 2 => rfl
theorem frO_none {wd : Int} (h : ∀ y ∈ ([0, 1, 2] : List (Fin 3)), frW y ≠ wd) : frO wd = none := by
  have h0 := h 0 (by simp)
  have h1 := h 1 (by simp)
  have h2 := h 2 (by simp)
  rw [frO, if_neg (fun e => h0 e.symm), if_neg (fun e => h1 e.symm), if_neg (fun e => h2 e.symm)]
def foV : Option (Fin 3) → Value
  | some x => .tuple #[.agg #[.int .i64 (frK x), .int .i64 (frP x), .int .i64 (frW x)], .bool true]
  | none => .tuple #[.agg #[.int .i64 0, .int .i64 0, .int .i64 0], .bool false]
def zF : Array Value := #[.int .i64 0, .int .i64 0, .int .i64 0]

set_option maxRecDepth 100000 in
set_option maxHeartbeats 600000 in
theorem formOf_calls (wd : Int) (w : World) (hT : FrmT w) : Calls Tryz.prog 165 #[.int .i64 wd] w fun o w' => o = .returned (foV (frO wd)) ∧ Below w.heap.size w w' := by
  have HT := Lib.hid hT
  clear hT
  refine (callsIn_wide (n := 5)).1 ?_
  refine callsIn_of_wp_marks Tryz.func165 rfl trivial ?_ rfl
  simp only [Tryz.ntmps165, List.size_toArray, List.length_cons, List.length_nil, Nat.reduceAdd, Nat.reduceSub, Array.replicate_succ, Array.replicate_zero, List.push_toArray, List.append_toArray, List.nil_append, List.cons_append]
  gi_wp2
  refine scope_in ?_
  gi_wp2
  refine label_in ?_
  gi_wp2_with (refine ⟨trivial, ?_⟩; gi_at_call 174; refine (asc_in _ _).mono ?_; rintro o w1 ⟨rfl, rfl⟩)
  obtain ⟨W0, hW0⟩ : ∃ W0, W0 = (((w.alloc (.cells #[.int .i64 wd] 3)).alloc (.cells #[.int .i64 0, .int .i64 0, .int .i64 0] 227)).alloc (.cells #[.int .i64 0, .int .i64 0, .int .i64 0] 227)).alloc (.cells #[.bool false] 4) := ⟨_, rfl⟩
  have a1 : At W0 w.heap.size #[.int .i64 wd] 3 := by
    rw [hW0]; exact (((At.new w _ _).alloc _).alloc _).alloc _
  have a2 : At W0 (w.heap.size + 1) #[.int .i64 0, .int .i64 0, .int .i64 0] 227 := by
    rw [hW0]; exact ((At.new1 w _ _ _).alloc _).alloc _
  have a3 : At W0 (w.heap.size + 1 + 1) #[.int .i64 0, .int .i64 0, .int .i64 0] 227 := by
    rw [hW0]; exact (At.new2 w _ _ _ _).alloc _
  have a4 : At W0 (w.heap.size + 1 + 1 + 1) #[.bool false] 4 := by
    rw [hW0]
    have := At.new (((w.alloc (.cells #[.int .i64 wd] 3)).alloc (.cells #[.int .i64 0, .int .i64 0, .int .i64 0] 227)).alloc (.cells #[.int .i64 0, .int .i64 0, .int .i64 0] 227)) #[.bool false] 4
    rwa [World.size_alloc, World.size_alloc, World.size_alloc] at this
  have hB0 : Below w.heap.size w W0 := by rw [hW0]; exact below_al (below_al (below_al (below_al (Below.refl _ w) _) _) _) _
  have hs0 : W0.heap.size = w.heap.size + 4 := by rw [hW0]; simp
  rw [← hW0]
  have HS0 := Lib.hid hs0
  have HT0 := Lib.hid (HT.out.below hB0)
  clear hW0 hs0
  refine wpIn_rangeFunc_ownH rfl (by omega) (gf := 206) (lb := #[]) rfl trivial (enters_of Tryz.func206 (by kernel_rfl) rfl)
    (asc_stops (5 - 1) (by omega) _ HT0.out) KeepsWalks.trans (fun W l o o' _ h _ hw => KeepsWalks.putObj o' h hw) (Below.refl _ _) (fun _ => rfl)
    (fun pre W => (((∀ y ∈ pre, frW y ≠ wd) ∧ At W w.heap.size #[.int .i64 wd] 3) ∧ At W (w.heap.size + 1) #[.int .i64 0, .int .i64 0, .int .i64 0] 227 ∧ At W (w.heap.size + 1 + 1) #[.int .i64 0, .int .i64 0, .int .i64 0] 227 ∧ At W (w.heap.size + 1 + 1 + 1) #[.bool false] 4) ∧ Below w.heap.size w W)
    (fun c _ W => (c = .exit 0 ∧ ∃ x : Fin 3, frW x = wd ∧ At W (w.heap.size + 1) #[.int .i64 0, .int .i64 0, .int .i64 0] 227 ∧ At W (w.heap.size + 1 + 1) #[.int .i64 (frK x), .int .i64 (frP x), .int .i64 (frW x)] 227 ∧ At W (w.heap.size + 1 + 1 + 1) #[.bool true] 4) ∧ Below w.heap.size w W)
    (OwnFrom.and (OwnFrom.and (OwnFrom.and (ownFrom_pure _ _) (Own.from (at_own _ _ _) _)) (OwnFrom.and (Own.from (at_own _ _ _) _) (OwnFrom.and (Own.from (at_own _ _ _) _) (Own.from (at_own _ _ _) _)))) (ownFrom_below (Nat.le_refl _) (by rw [HS0.out]; omega)))
    (fun c => OwnFrom.and (fun _ _ _ _ hs hg hr => by
      obtain ⟨h1, x, h2, h3, h4, h5⟩ := hs
      exact ⟨h1, x, h2, at_kept h3 hg (fun r e => (hr r e).2), at_kept h4 hg (fun r e => (hr r e).2), at_kept h5 hg (fun r e => (hr r e).2)⟩) (ownFrom_below (Nat.le_refl _) (by rw [HS0.out]; omega)))
    ⟨⟨⟨by simp, a1⟩, a2, a3, a4⟩, hB0⟩
    (fun x a' W => ∃ C, w.heap.size + 4 ≤ C ∧ At W C #[.int .i64 (frK x), .int .i64 (frP x), .int .i64 (frW x)] 227 ∧ a' = { tmps := #[.int .i64 wd, .pointer (some ⟨w.heap.size, 0, none⟩), .pointer (some ⟨w.heap.size + 1, 0, none⟩), .bool false, .pointer (some ⟨w.heap.size + 1 + 1, 0, none⟩), .pointer (some ⟨w.heap.size + 1 + 1 + 1, 0, none⟩), .pointer (some ⟨C, 0, none⟩), .func (.func 206) #[] #[], .agg #[.int .i64 (frK x), .int .i64 (frP x), .int .i64 (frW x)], undef, undef, undef, undef, undef, undef, undef], defers := [] })
    (fun x a' _ _ _ _ hs hg hr => by
      obtain ⟨C, h1, h2, h3⟩ := hs
      exact ⟨C, h1, at_kept h2 hg (fun r e => (hr r e).2), h3⟩)
    ?_ ?_ ?_ ?_
  · intro l pre x W K hI hK
    have hz : w.heap.size + 4 ≤ W.heap.size := by have := hI.1.2.2.2.lt; omega
    have HI := Lib.hid hI
    have HK := Lib.hid hK
    clear hI hK a1 a2 a3 a4 hB0
    simp only [frV]
    gi_wp2
    obtain ⟨⟨⟨i1, i2⟩, i3, i4, i5⟩, i6⟩ := HI.out
    exact HK.out _ _ ((KeepsOthers.alloc _ _).from _) (KeepsWalks.alloc _ _) ⟨⟨⟨i1, i2.alloc _⟩, i3.alloc _, i4.alloc _, i5.alloc _⟩, below_al i6 _⟩ ⟨_, hz, At.new _ _ _, rfl⟩
  · rintro l pre x a' W hl hlo ⟨⟨⟨i1, i2⟩, i3, i4, i5⟩, i6⟩ ⟨C, hC, h2, rfl⟩ hlen
    have HI1 := Lib.hid i1
    have HI2 := Lib.hid i2
    have HI3 := Lib.hid i3
    have HI4 := Lib.hid i4
    have HI5 := Lib.hid i5
    have HI6 := Lib.hid i6
    have HC := Lib.hid h2
    clear i1 a1 a2 a3 a4 hB0 hlo
    have c0 := i2.c 0 rfl
    have d0 := h2.c 0 rfl
    have d1 := h2.c 1 rfl
    have d2 := h2.c 2 rfl
    by_cases hx : frW x = wd
    · have hxb : (frW x == wd) = true := by simpa using hx
      have g0 := i4.c 0 rfl
      have g1 := i4.c 1 rfl
      have g2 := i4.c 2 rfl
      have f0 := i4.f 0
      have f1 := i4.f 1
      have f2 := i4.f 2
      have k0 := i5.c 0 rfl
      have m0 := i5.f 0
      have z4 := i4.lt
      have z5 := i5.lt
      have HX := Lib.hid hx
      clear hx i2 i3 i4 i5 i6 h2
      gi_wp2
      refine ⟨((((KeepsOthers.setCell _ _ _).trans (KeepsOthers.setCell _ _ _)).trans (KeepsOthers.setCell _ _ _)).trans (KeepsOthers.setCell _ _ _)).from _, ⟨rfl, x, HX.out, ?_, ?_, ?_⟩, below1 (below3 HI6.out (by omega) _ _ _) (by omega) _⟩
      · exact (((HI3.out.off (by omega)).off (by omega)).off (by omega)).off (by omega)
      · exact (HI4.out.set3 _ _ _).off (by omega)
      · exact ((((HI5.out.off (by omega)).off (by omega)).off (by omega))).set1 _
    · have hxb : (frW x == wd) = false := by simpa using hx
      have HX := Lib.hid hx
      clear hx i2 i3 i4 i5 i6 h2
      gi_wp2
      refine ⟨KeepsFrom.refl _ _, KeepsWalks.refl _, ⟨⟨?_, HI2.out⟩, HI3.out, HI4.out, HI5.out⟩, HI6.out⟩
      intro y hy
      rcases List.mem_append.1 hy with h | h
      · exact HI1.out y h
      · simp at h; subst h; exact HX.out
  · rintro D ys W hD rfl ⟨⟨⟨i1, i2⟩, i3, i4, i5⟩, i6⟩ hK
    have HN := Lib.hid (frO_none i1)
    have HI3 := Lib.hid i3
    have HI6 := Lib.hid i6
    have HK := Lib.hid hK
    have g0 := i4.c 0 rfl
    have g1 := i4.c 1 rfl
    have g2 := i4.c 2 rfl
    have k0 := i5.c 0 rfl
    have r0 := i3.c 0 rfl
    have r1 := i3.c 1 rfl
    have r2 := i3.c 2 rfl
    have f0 := i3.f 0
    have f1 := i3.f 1
    have f2 := i3.f 2
    have z3 := i3.lt
    clear i1 i2 i3 i6 hK a1 a2 a3 a4 hB0
    have G4 := Lib.hid i4
    have G5 := Lib.hid i5
    clear i4 i5
    gi_wp2
    refine wpIn_wide.2 ?_
    have HI3d := Lib.hid (show At W.drew _ _ _ from HI3.out)
    have G4d := Lib.hid (show At W.drew _ _ _ from G4.out)
    have G5d := Lib.hid (show At W.drew _ _ _ from G5.out)
    have HKd := Lib.hid (show W.drew.heap[D]? = some (.deferred (some [])) from HK.out)
    clear HI3 G4 G5 HK g0 g1 g2 k0
    go_region_held3 (fun w' => (w'.cell? ⟨w.heap.size + 1 + 1, 0, none⟩ = some (.int .i64 0) ∧ w'.cell? ⟨w.heap.size + 1 + 1, 1, none⟩ = some (.int .i64 0) ∧ w'.cell? ⟨w.heap.size + 1 + 1, 2, none⟩ = some (.int .i64 0)) ∧ w'.cell? ⟨w.heap.size + 1 + 1 + 1, 0, none⟩ = some (.bool false))
      (first
        | exact ⟨⟨G4d.out.c 0 rfl, G4d.out.c 1 rfl, G4d.out.c 2 rfl⟩, G5d.out.c 0 rfl⟩
        | exact ⟨⟨(((G4d.out.off (by omega)).off (by omega)).off (by omega)).c 0 rfl, (((G4d.out.off (by omega)).off (by omega)).off (by omega)).c 1 rfl, (((G4d.out.off (by omega)).off (by omega)).off (by omega)).c 2 rfl⟩, (((G5d.out.off (by omega)).off (by omega)).off (by omega)).c 0 rfl⟩)
      (fail)
    all_goals
      have hd : D ≠ w.heap.size + 1 := by have := HS0.out; omega
      have HR := Lib.hid (show At ((((W.setCell ⟨w.heap.size + 1, 0, none⟩ (.int .i64 0)).setCell ⟨w.heap.size + 1, 1, none⟩ (.int .i64 0)).setCell ⟨w.heap.size + 1, 2, none⟩ (.int .i64 0)).drew) (w.heap.size + 1) #[.int .i64 0, .int .i64 0, .int .i64 0] 227 from At.set3 (W := W) HI3d.out _ _ _)
      have HB := Lib.hid (show Below w.heap.size w ((((W.setCell ⟨w.heap.size + 1, 0, none⟩ (.int .i64 0)).setCell ⟨w.heap.size + 1, 1, none⟩ (.int .i64 0)).setCell ⟨w.heap.size + 1, 2, none⟩ (.int .i64 0)).drew) from (below3 (W := W) HI6.out (by omega) _ _ _).drew)
      have HD := Lib.hid (show ((((W.setCell ⟨w.heap.size + 1, 0, none⟩ (.int .i64 0)).setCell ⟨w.heap.size + 1, 1, none⟩ (.int .i64 0)).setCell ⟨w.heap.size + 1, 2, none⟩ (.int .i64 0)).drew).heap[D]? = some (.deferred (some [])) from
        (heap_setCell_other _ ⟨w.heap.size + 1, 2, none⟩ D _ hd).trans ((heap_setCell_other _ ⟨w.heap.size + 1, 1, none⟩ D _ hd).trans ((heap_setCell_other _ ⟨w.heap.size + 1, 0, none⟩ D _ hd).trans HKd.out)))
      obtain ⟨WX, hWX⟩ : ∃ WX, WX = (((W.setCell ⟨w.heap.size + 1, 0, none⟩ (.int .i64 0)).setCell ⟨w.heap.size + 1, 1, none⟩ (.int .i64 0)).setCell ⟨w.heap.size + 1, 2, none⟩ (.int .i64 0)).drew := ⟨_, rfl⟩
      rw [← hWX] at HR HB HD ⊢
      clear hWX hd r0 r1 r2 f0 f1 f2 z3
      gi_wp2
      refine ⟨by simp, .inl ⟨_, _, rfl, run_takeDeferred HD.out, ?_⟩⟩
      have q := HR.out.putObj (.deferred none) HD.out rfl
      have q0 := q.c 0 rfl
      have q1 := q.c 1 rfl
      have q2 := q.c 2 rfl
      refine ⟨.tuple #[.agg #[.int .i64 0, .int .i64 0, .int .i64 0], .bool false], by simp [results, Tryz.results165, go_sem, q0, q1, q2], ?_⟩
      exact ⟨by rw [HN.out]; rfl, HB.out.trans (belowK_b (w := w) (Nat.le_refl _) _ D _ _ (by have := HS0.out; omega) HD.out rfl rfl)⟩
  · rintro D c pre W hD _ ⟨⟨rfl, x, hx, i3, i4, i5⟩, i6⟩ hK
    have HN := Lib.hid (frO_of hx)
    have HI3 := Lib.hid i3
    have HI6 := Lib.hid i6
    have HK := Lib.hid hK
    have g0 := i4.c 0 rfl
    have g1 := i4.c 1 rfl
    have g2 := i4.c 2 rfl
    have k0 := i5.c 0 rfl
    have r0 := i3.c 0 rfl
    have r1 := i3.c 1 rfl
    have r2 := i3.c 2 rfl
    have f0 := i3.f 0
    have f1 := i3.f 1
    have f2 := i3.f 2
    have z3 := i3.lt
    clear hx i3 i6 hK a1 a2 a3 a4 hB0
    have G4 := Lib.hid i4
    have G5 := Lib.hid i5
    clear i4 i5
    gi_wp2
    refine wpIn_wide.2 ?_
    have HI3d := Lib.hid (show At W.drew _ _ _ from HI3.out)
    have G4d := Lib.hid (show At W.drew _ _ _ from G4.out)
    have G5d := Lib.hid (show At W.drew _ _ _ from G5.out)
    have HKd := Lib.hid (show W.drew.heap[D]? = some (.deferred (some [])) from HK.out)
    clear HI3 G4 G5 HK g0 g1 g2 k0
    go_region_held3 (fun w' => (w'.cell? ⟨w.heap.size + 1 + 1, 0, none⟩ = some (.int .i64 (frK x)) ∧ w'.cell? ⟨w.heap.size + 1 + 1, 1, none⟩ = some (.int .i64 (frP x)) ∧ w'.cell? ⟨w.heap.size + 1 + 1, 2, none⟩ = some (.int .i64 (frW x))) ∧ w'.cell? ⟨w.heap.size + 1 + 1 + 1, 0, none⟩ = some (.bool true))
      (first
        | exact ⟨⟨G4d.out.c 0 rfl, G4d.out.c 1 rfl, G4d.out.c 2 rfl⟩, G5d.out.c 0 rfl⟩
        | exact ⟨⟨(((G4d.out.off (by omega)).off (by omega)).off (by omega)).c 0 rfl, (((G4d.out.off (by omega)).off (by omega)).off (by omega)).c 1 rfl, (((G4d.out.off (by omega)).off (by omega)).off (by omega)).c 2 rfl⟩, (((G5d.out.off (by omega)).off (by omega)).off (by omega)).c 0 rfl⟩)
      (fail)
    all_goals
      have hd : D ≠ w.heap.size + 1 := by have := HS0.out; omega
      have HR := Lib.hid (show At ((((W.setCell ⟨w.heap.size + 1, 0, none⟩ (.int .i64 (frK x))).setCell ⟨w.heap.size + 1, 1, none⟩ (.int .i64 (frP x))).setCell ⟨w.heap.size + 1, 2, none⟩ (.int .i64 (frW x))).drew) (w.heap.size + 1) #[.int .i64 (frK x), .int .i64 (frP x), .int .i64 (frW x)] 227 from At.set3 (W := W) HI3d.out _ _ _)
      have HB := Lib.hid (show Below w.heap.size w ((((W.setCell ⟨w.heap.size + 1, 0, none⟩ (.int .i64 (frK x))).setCell ⟨w.heap.size + 1, 1, none⟩ (.int .i64 (frP x))).setCell ⟨w.heap.size + 1, 2, none⟩ (.int .i64 (frW x))).drew) from (below3 (W := W) HI6.out (by omega) _ _ _).drew)
      have HD := Lib.hid (show ((((W.setCell ⟨w.heap.size + 1, 0, none⟩ (.int .i64 (frK x))).setCell ⟨w.heap.size + 1, 1, none⟩ (.int .i64 (frP x))).setCell ⟨w.heap.size + 1, 2, none⟩ (.int .i64 (frW x))).drew).heap[D]? = some (.deferred (some [])) from
        (heap_setCell_other _ ⟨w.heap.size + 1, 2, none⟩ D _ hd).trans ((heap_setCell_other _ ⟨w.heap.size + 1, 1, none⟩ D _ hd).trans ((heap_setCell_other _ ⟨w.heap.size + 1, 0, none⟩ D _ hd).trans HKd.out)))
      obtain ⟨WX, hWX⟩ : ∃ WX, WX = (((W.setCell ⟨w.heap.size + 1, 0, none⟩ (.int .i64 (frK x))).setCell ⟨w.heap.size + 1, 1, none⟩ (.int .i64 (frP x))).setCell ⟨w.heap.size + 1, 2, none⟩ (.int .i64 (frW x))).drew := ⟨_, rfl⟩
      rw [← hWX] at HR HB HD ⊢
      clear hWX hd r0 r1 r2 f0 f1 f2 z3
      gi_wp2
      refine ⟨by simp, .inl ⟨_, _, rfl, run_takeDeferred HD.out, ?_⟩⟩
      have q := HR.out.putObj (.deferred none) HD.out rfl
      have q0 := q.c 0 rfl
      have q1 := q.c 1 rfl
      have q2 := q.c 2 rfl
      refine ⟨.tuple #[.agg #[.int .i64 (frK x), .int .i64 (frP x), .int .i64 (frW x)], .bool true], by simp [results, Tryz.results165, go_sem, q0, q1, q2], ?_⟩
      exact ⟨by rw [HN.out]; rfl, HB.out.trans (belowK_b (w := w) (Nat.le_refl _) _ D _ _ (by have := HS0.out; omega) HD.out rfl rfl)⟩
end Go.Proofs.YtppapkpceejnkaaGreatDoor

namespace Go.Proofs.YtppapkpceejnkaaGreatDoor
open Go.RowKit

/-- The listed tables that widths want. -/
def Tw (w : World) : Prop := FrmT w ∧ BruT w
theorem Tw.below {A B : World} (h : Tw A) (hb : Below A.heap.size A B) : Tw B := ⟨h.1.below hb, h.2.below hb⟩
def wdV : Option Nat → Value
  | some c => .tuple #[.int .u64 (c : Int), .int .i64 0]
  | none => .tuple #[.int .u64 0, .int .i64 2]
theorem sgn64 {b : Nat} (h : b < 18446744073709551616) : b / 2 ^ 52 / 2 ^ 11 < 2 := by rw [e52]; omega

theorem turn_to_16 (b : Nat) (w : World) (hb : b < 65536) (hT : BruT w) : Calls Tryz.prog 166 #[.int .u64 (b : Int), .agg #[.int .i64 5, .int .i64 10, .int .i64 16], .agg #[.int .i64 11, .int .i64 52, .int .i64 64]] w fun o w' => o = .returned (.tuple #[.int .u64 ((wid16 b : Nat) : Int), .bool true]) ∧ Below w.heap.size w w' := by
  have := turn_calls 5 10 16 11 52 64 (-24) (-1074) b w (.inl ⟨rfl, rfl, rfl, rfl⟩) (.inr (.inr ⟨rfl, rfl, rfl, rfl⟩)) (.inr rfl) (by omega) (by rw [e10]; omega) hT
  rw [show trn (2 ^ 5) 10 (-24) (2 ^ 11) 52 (-1074) b = some (wid16 b) from wid16_trn hb] at this
  exact this
theorem turn_to_32 (b : Nat) (w : World) (hb : b < 4294967296) (hT : BruT w) : Calls Tryz.prog 166 #[.int .u64 (b : Int), .agg #[.int .i64 8, .int .i64 23, .int .i64 32], .agg #[.int .i64 11, .int .i64 52, .int .i64 64]] w fun o w' => o = .returned (.tuple #[.int .u64 ((wid32 b : Nat) : Int), .bool true]) ∧ Below w.heap.size w w' := by
  have := turn_calls 8 23 32 11 52 64 (-149) (-1074) b w (.inr (.inl ⟨rfl, rfl, rfl, rfl⟩)) (.inr (.inr ⟨rfl, rfl, rfl, rfl⟩)) (.inr rfl) (by omega) (by rw [e23]; omega) hT
  rw [show trn (2 ^ 8) 23 (-149) (2 ^ 11) 52 (-1074) b = some (wid32 b) from wid32_trn hb] at this
  exact this
theorem turn_to_64 (b : Nat) (w : World) (hb : b < 18446744073709551616) (hT : BruT w) : Calls Tryz.prog 166 #[.int .u64 (b : Int), .agg #[.int .i64 11, .int .i64 52, .int .i64 64], .agg #[.int .i64 11, .int .i64 52, .int .i64 64]] w fun o w' => o = .returned (.tuple #[.int .u64 (b : Int), .bool true]) ∧ Below w.heap.size w w' := by
  have := turn_calls 11 52 64 11 52 64 (-1074) (-1074) b w (.inr (.inr ⟨rfl, rfl, rfl, rfl⟩)) (.inr (.inr ⟨rfl, rfl, rfl, rfl⟩)) (.inr rfl) hb (sgn64 hb) hT
  rw [show trn (2 ^ 11) 52 (-1074) (2 ^ 11) 52 (-1074) b = some b from id64_trn b] at this
  exact this
theorem turn_from (x : Fin 3) (b : Nat) (w : World) (hb : b < 18446744073709551616) (hT : BruT w) : Calls Tryz.prog 166 #[.int .u64 (b : Int), .agg #[.int .i64 11, .int .i64 52, .int .i64 64], .agg #[.int .i64 (frK x), .int .i64 (frP x), .int .i64 (frW x)]] w fun o w' => o = .returned (trV (narO b (frW x))) ∧ Below w.heap.size w w' := by
  match x with
  | 0 =>
    have := turn_calls 11 52 64 5 10 16 (-1074) (-24) b w (.inr (.inr ⟨rfl, rfl, rfl, rfl⟩)) (.inl ⟨rfl, rfl, rfl, rfl⟩) (.inl rfl) hb (sgn64 hb) hT
    rw [show trn (2 ^ 11) 52 (-1074) (2 ^ 5) 10 (-24) b = narO b 16 from nar16_trn hb] at this
    exact this
  | 1 =>
    have := turn_calls 11 52 64 8 23 32 (-1074) (-149) b w (.inr (.inr ⟨rfl, rfl, rfl, rfl⟩)) (.inr (.inl ⟨rfl, rfl, rfl, rfl⟩)) (.inl rfl) hb (sgn64 hb) hT
    rw [show trn (2 ^ 11) 52 (-1074) (2 ^ 8) 23 (-149) b = narO b 32 from nar32_trn hb] at this
    exact this
  | 2 =>
    have := turn_to_64 b w hb hT
    exact this

set_option maxRecDepth 100000 in
set_option maxHeartbeats 400000 in
theorem Widen_none (b : Nat) (wd : Int) (w : World) (h : frO wd = none) (hT : Tw w) : Calls Tryz.prog 127 #[.int .u64 (b : Int), .int .i64 wd] w fun o w' => o = .returned (.tuple #[.int .u64 0, .int .i64 2]) ∧ Below w.heap.size w w' := by
  have HF := Lib.hid (formOf_calls wd w hT.1)
  rw [h] at HF
  simp only [foV] at HF
  clear h hT
  go_enter Tryz.func127, Tryz.ntmps127
  go_wp2_with fail
  refine HF.out.mono ?_
  rintro o w1 ⟨rfl, hb1⟩
  have B1 := Lib.hid (below_al hb1 (.cells #[.int .i64 0, .int .i64 0, .int .i64 0] 227))
  clear hb1
  go_wp2
  go_ret2
  exact ⟨rfl, B1.out⟩

set_option maxRecDepth 100000 in
set_option maxHeartbeats 400000 in
theorem Widen_much_16 (b : Nat) (w : World) (hb : 65536 ≤ b) (hT : Tw w) : Calls Tryz.prog 127 #[.int .u64 (b : Int), .int .i64 16] w fun o w' => o = .returned (.tuple #[.int .u64 0, .int .i64 2]) ∧ Below w.heap.size w w' := by
  have HF := Lib.hid (formOf_calls 16 w hT.1)
  simp only [show frO 16 = some 0 from rfl, foV, frK, frP, frW] at HF
  have hd : ((b : Int) / 65536 != 0) = true := by simp; omega
  clear hT hb
  go_enter Tryz.func127, Tryz.ntmps127
  go_wp2_with fail
  refine HF.out.mono ?_
  rintro o w1 ⟨rfl, hb1⟩
  have B1 := Lib.hid (below_al hb1 (.cells #[.int .i64 5, .int .i64 10, .int .i64 16] 227))
  clear hb1
  go_wp2
  go_ret2
  exact ⟨rfl, B1.out⟩

set_option maxRecDepth 100000 in
set_option maxHeartbeats 400000 in
theorem Widen_16 (b : Nat) (w : World) (hb : b < 65536) (hT : Tw w) : Calls Tryz.prog 127 #[.int .u64 (b : Int), .int .i64 16] w fun o w' => o = .returned (.tuple #[.int .u64 ((wid16 b : Nat) : Int), .int .i64 0]) ∧ Below w.heap.size w w' := by
  have HF := Lib.hid (formOf_calls 16 w hT.1)
  simp only [show frO 16 = some 0 from rfl, foV, frK, frP, frW] at HF
  have HT := Lib.hid hT
  have HU := Lib.hid (fun W h => turn_to_16 b W hb h)
  have hd : ((b : Int) / 65536 != 0) = false := by
    have h1 : (b : Int) / 65536 = 0 := by omega
    rw [h1]; rfl
  obtain ⟨c, hc⟩ : ∃ c, c = wid16 b := ⟨_, rfl⟩
  rw [← hc] at HU ⊢
  clear hT hb hc
  go_enter Tryz.func127, Tryz.ntmps127
  go_wp2_with fail
  refine HF.out.mono ?_
  rintro o w1 ⟨rfl, hb1⟩
  have B1 := Lib.hid (below_al hb1 (.cells #[.int .i64 5, .int .i64 10, .int .i64 16] 227))
  have A1 := Lib.hid (At.new w1 #[.int .i64 5, .int .i64 10, .int .i64 16] 227)
  obtain ⟨n1, hn1⟩ : ∃ n, n = w1.heap.size := ⟨_, rfl⟩
  obtain ⟨W1, hW1⟩ : ∃ W, W = w1.alloc (.cells #[.int .i64 5, .int .i64 10, .int .i64 16] 227) := ⟨_, rfl⟩
  clear hb1
  go_wp2_with fail
  rw [← hW1] at A1 B1 ⊢
  rw [← hn1] at A1 ⊢
  clear hW1 hn1
  have A1d := Lib.hid (show At W1.drew _ _ _ from A1.out)
  have B1d := Lib.hid B1.out.drew
  clear A1 B1
  go_region_held3 (fun w' => w'.cell? ⟨n1, 0, none⟩ = some (.int .i64 5) ∧ w'.cell? ⟨n1, 1, none⟩ = some (.int .i64 10) ∧ w'.cell? ⟨n1, 2, none⟩ = some (.int .i64 16))
    (first
      | exact ⟨A1d.out.c 0 rfl, A1d.out.c 1 rfl, A1d.out.c 2 rfl⟩
      | exact ⟨A2.out.c 0 rfl, A2.out.c 1 rfl, A2.out.c 2 rfl⟩
      | exact ⟨A3.out.c 0 rfl, A3.out.c 1 rfl, A3.out.c 2 rfl⟩)
    ((first
      | (go_at_call 167; refine (widest_calls _ (HT.out.below B1d.out).1).mono ?_; rintro o w2 ⟨rfl, hb2⟩; unfold fmV; have A2 := Lib.hid (A1d.out.below hb2); have B2 := Lib.hid (below_next B1d.out hb2); clear hb2)
      | (go_at_call 166; refine (HU.out _ (HT.out.below B2.out).2).mono ?_; rintro o w3 ⟨rfl, hb3⟩; have A3 := Lib.hid (A2.out.below hb3); have B3 := Lib.hid (below_next B2.out hb3); clear hb3)))
  all_goals
    go_wp2
    go_ret2
    exact ⟨rfl, B3.out⟩

set_option maxRecDepth 100000 in
set_option maxHeartbeats 400000 in
theorem Widen_much_32 (b : Nat) (w : World) (hb : 4294967296 ≤ b) (hT : Tw w) : Calls Tryz.prog 127 #[.int .u64 (b : Int), .int .i64 32] w fun o w' => o = .returned (.tuple #[.int .u64 0, .int .i64 2]) ∧ Below w.heap.size w w' := by
  have HF := Lib.hid (formOf_calls 32 w hT.1)
  simp only [show frO 32 = some 1 from rfl, foV, frK, frP, frW] at HF
  have hd : ((b : Int) / 4294967296 != 0) = true := by simp; omega
  clear hT hb
  go_enter Tryz.func127, Tryz.ntmps127
  go_wp2_with fail
  refine HF.out.mono ?_
  rintro o w1 ⟨rfl, hb1⟩
  have B1 := Lib.hid (below_al hb1 (.cells #[.int .i64 8, .int .i64 23, .int .i64 32] 227))
  clear hb1
  go_wp2
  go_ret2
  exact ⟨rfl, B1.out⟩

set_option maxRecDepth 100000 in
set_option maxHeartbeats 400000 in
theorem Widen_32 (b : Nat) (w : World) (hb : b < 4294967296) (hT : Tw w) : Calls Tryz.prog 127 #[.int .u64 (b : Int), .int .i64 32] w fun o w' => o = .returned (.tuple #[.int .u64 ((wid32 b : Nat) : Int), .int .i64 0]) ∧ Below w.heap.size w w' := by
  have HF := Lib.hid (formOf_calls 32 w hT.1)
  simp only [show frO 32 = some 1 from rfl, foV, frK, frP, frW] at HF
  have HT := Lib.hid hT
  have HU := Lib.hid (fun W h => turn_to_32 b W hb h)
  have hd : ((b : Int) / 4294967296 != 0) = false := by
    have h1 : (b : Int) / 4294967296 = 0 := by omega
    rw [h1]; rfl
  obtain ⟨c, hc⟩ : ∃ c, c = wid32 b := ⟨_, rfl⟩
  rw [← hc] at HU ⊢
  clear hT hb hc
  go_enter Tryz.func127, Tryz.ntmps127
  go_wp2_with fail
  refine HF.out.mono ?_
  rintro o w1 ⟨rfl, hb1⟩
  have B1 := Lib.hid (below_al hb1 (.cells #[.int .i64 8, .int .i64 23, .int .i64 32] 227))
  have A1 := Lib.hid (At.new w1 #[.int .i64 8, .int .i64 23, .int .i64 32] 227)
  obtain ⟨n1, hn1⟩ : ∃ n, n = w1.heap.size := ⟨_, rfl⟩
  obtain ⟨W1, hW1⟩ : ∃ W, W = w1.alloc (.cells #[.int .i64 8, .int .i64 23, .int .i64 32] 227) := ⟨_, rfl⟩
  clear hb1
  go_wp2_with fail
  rw [← hW1] at A1 B1 ⊢
  rw [← hn1] at A1 ⊢
  clear hW1 hn1
  have A1d := Lib.hid (show At W1.drew _ _ _ from A1.out)
  have B1d := Lib.hid B1.out.drew
  clear A1 B1
  go_region_held3 (fun w' => w'.cell? ⟨n1, 0, none⟩ = some (.int .i64 8) ∧ w'.cell? ⟨n1, 1, none⟩ = some (.int .i64 23) ∧ w'.cell? ⟨n1, 2, none⟩ = some (.int .i64 32))
    (first
      | exact ⟨A1d.out.c 0 rfl, A1d.out.c 1 rfl, A1d.out.c 2 rfl⟩
      | exact ⟨A2.out.c 0 rfl, A2.out.c 1 rfl, A2.out.c 2 rfl⟩
      | exact ⟨A3.out.c 0 rfl, A3.out.c 1 rfl, A3.out.c 2 rfl⟩)
    ((first
      | (go_at_call 167; refine (widest_calls _ (HT.out.below B1d.out).1).mono ?_; rintro o w2 ⟨rfl, hb2⟩; unfold fmV; have A2 := Lib.hid (A1d.out.below hb2); have B2 := Lib.hid (below_next B1d.out hb2); clear hb2)
      | (go_at_call 166; refine (HU.out _ (HT.out.below B2.out).2).mono ?_; rintro o w3 ⟨rfl, hb3⟩; have A3 := Lib.hid (A2.out.below hb3); have B3 := Lib.hid (below_next B2.out hb3); clear hb3)))
  all_goals
    go_wp2
    go_ret2
    exact ⟨rfl, B3.out⟩

set_option maxRecDepth 100000 in
set_option maxHeartbeats 400000 in
theorem Widen_64 (b : Nat) (w : World) (hb : b < 18446744073709551616) (hT : Tw w) : Calls Tryz.prog 127 #[.int .u64 (b : Int), .int .i64 64] w fun o w' => o = .returned (.tuple #[.int .u64 ((b : Nat) : Int), .int .i64 0]) ∧ Below w.heap.size w w' := by
  have HF := Lib.hid (formOf_calls 64 w hT.1)
  simp only [show frO 64 = some 2 from rfl, foV, frK, frP, frW] at HF
  have HT := Lib.hid hT
  have HU := Lib.hid (fun W h => turn_to_64 b W hb h)
  have hd : ((b : Int) / 18446744073709551616 != 0) = false := by
    have h1 : (b : Int) / 18446744073709551616 = 0 := by omega
    rw [h1]; rfl
  clear hT hb
  go_enter Tryz.func127, Tryz.ntmps127
  go_wp2_with fail
  refine HF.out.mono ?_
  rintro o w1 ⟨rfl, hb1⟩
  have B1 := Lib.hid (below_al hb1 (.cells #[.int .i64 11, .int .i64 52, .int .i64 64] 227))
  have A1 := Lib.hid (At.new w1 #[.int .i64 11, .int .i64 52, .int .i64 64] 227)
  obtain ⟨n1, hn1⟩ : ∃ n, n = w1.heap.size := ⟨_, rfl⟩
  obtain ⟨W1, hW1⟩ : ∃ W, W = w1.alloc (.cells #[.int .i64 11, .int .i64 52, .int .i64 64] 227) := ⟨_, rfl⟩
  clear hb1
  go_wp2_with fail
  rw [← hW1] at A1 B1 ⊢
  rw [← hn1] at A1 ⊢
  clear hW1 hn1
  have A1d := Lib.hid (show At W1.drew _ _ _ from A1.out)
  have B1d := Lib.hid B1.out.drew
  clear A1 B1
  go_region_held3 (fun w' => w'.cell? ⟨n1, 0, none⟩ = some (.int .i64 11) ∧ w'.cell? ⟨n1, 1, none⟩ = some (.int .i64 52) ∧ w'.cell? ⟨n1, 2, none⟩ = some (.int .i64 64))
    (first
      | exact ⟨A1d.out.c 0 rfl, A1d.out.c 1 rfl, A1d.out.c 2 rfl⟩
      | exact ⟨A2.out.c 0 rfl, A2.out.c 1 rfl, A2.out.c 2 rfl⟩
      | exact ⟨A3.out.c 0 rfl, A3.out.c 1 rfl, A3.out.c 2 rfl⟩)
    ((first
      | (go_at_call 167; refine (widest_calls _ (HT.out.below B1d.out).1).mono ?_; rintro o w2 ⟨rfl, hb2⟩; unfold fmV; have A2 := Lib.hid (A1d.out.below hb2); have B2 := Lib.hid (below_next B1d.out hb2); clear hb2)
      | (go_at_call 166; refine (HU.out _ (HT.out.below B2.out).2).mono ?_; rintro o w3 ⟨rfl, hb3⟩; have A3 := Lib.hid (A2.out.below hb3); have B3 := Lib.hid (below_next B2.out hb3); clear hb3)))
  all_goals
    go_wp2
    go_ret2
    exact ⟨rfl, B3.out⟩

theorem Widen_calls (b : Nat) (wd : Int) (w : World) (hb : b < 18446744073709551616) (hT : Tw w) : Calls Tryz.prog 127 #[.int .u64 (b : Int), .int .i64 wd] w fun o w' => o = .returned (wdV (widO b wd)) ∧ Below w.heap.size w w' := by
  rw [widO]
  by_cases h16 : wd = 16
  · subst h16
    rw [if_pos rfl]
    by_cases h : b < 65536
    · rw [if_pos h]; exact Widen_16 b w h hT
    · rw [if_neg h]; exact Widen_much_16 b w (by omega) hT
  rw [if_neg h16]
  by_cases h32 : wd = 32
  · subst h32
    rw [if_pos rfl]
    by_cases h : b < 4294967296
    · rw [if_pos h]; exact Widen_32 b w h hT
    · rw [if_neg h]; exact Widen_much_32 b w (by omega) hT
  rw [if_neg h32]
  by_cases h64 : wd = 64
  · subst h64
    rw [if_pos rfl]; exact Widen_64 b w hb hT
  rw [if_neg h64]
  exact Widen_none b wd w (by rw [frO, if_neg h16, if_neg h32, if_neg h64]) hT

theorem frO_is {wd : Int} {x : Fin 3} (h : frO wd = some x) : frW x = wd := by
  rw [frO] at h
  split at h
  · cases h; rename_i h1; exact h1.symm
  · split at h
    · cases h; rename_i h1; exact h1.symm
    · split at h
      · cases h; rename_i h1; exact h1.symm
      · cases h
theorem fld0 (w : World) : (Instr.field 227 (.agg #[.int .i64 11, .int .i64 52, .int .i64 64]) 0).run Tryz.prog w = .ok (.agg #[.int .i64 11, .int .i64 52]) w := by
  simp [Instr.field, run_underlying Tryz.underlying227, go_sem, part, asAgg, Tryz.sizeOf225, Tryz.isAgg225]
end Go.Proofs.YtppapkpceejnkaaGreatDoor

namespace Go.Proofs.YtppapkpceejnkaaGreatDoor
open Go.RowKit Go.Shelf

attribute [local go_sem] Oper.semAt_some

theorem region_round {P : Program} {N l₀ id : Nat} {Q : Exit → Act → World → Prop} {a : Act} {w : World} {l : List Oper} (hm : P.follows .mixedOrders = true)
    (hd : l.all (fun o => match o.op with | .defer _ => false | _ => true) = true) (hno : ¬ LetsOut Q)
    (h : wpAny P .any l.toArray Q l.toArray.size (Array.replicate l.toArray.size false) a w.drew) : (Code.region id l.toArray true).wpIn (Fence.wide.inRound l₀) N P Q a w := by
  refine wpIn_region_any hm (wpAny_in_round (fun i o ho c e => ?_) hno _ _ _ _ h)
  have hm := List.all_eq_true.1 hd o (by rw [List.getElem?_toArray] at ho; exact List.mem_of_getElem? ho)
  rw [e] at hm
  cases hm

theorem keepsO_below {A B : World} (h : Below A.heap.size A B) : KeepsOthers A B := ⟨h.size, fun k _ hk _ => (h.block k (Array.getElem?_eq_some_iff.1 hk).1).trans hk⟩
theorem least_of {b : Nat} {pre ini : List (Fin 3)} {x : Fin 3} (hpre : pre = [0] ∨ pre = [0, 1] ∨ pre = [0, 1, 2]) (he : pre = ini ++ [x]) (hs : (narO b (frW x)).isSome = true) (hn : ∀ y ∈ ini, narO b (frW y) = none) : leastW b = frW x := by
  have n16 : narO b 16 = none → ¬ wid16 (nar16 b) = b := fun h e => by rw [narO, if_pos rfl, if_pos e] at h; cases h
  have n32 : narO b 32 = none → ¬ wid32 (nar32 b) = b := fun h e => by rw [narO, if_neg (by decide), if_pos rfl, if_pos e] at h; cases h
  have s16 : (narO b 16).isSome = true → wid16 (nar16 b) = b := fun h => by
    rw [narO, if_pos rfl] at h
    split at h
    · assumption
    · cases h
  have s32 : (narO b 32).isSome = true → wid32 (nar32 b) = b := fun h => by
    rw [narO, if_neg (by decide), if_pos rfl] at h
    split at h
    · assumption
    · cases h
  rcases hpre with rfl | rfl | rfl
  · have h1 := List.append_inj' (show [] ++ [(0 : Fin 3)] = ini ++ [x] from he) rfl
    obtain ⟨rfl, h2⟩ := h1
    cases h2
    rw [leastW, if_pos (s16 hs)]; rfl
  · have h1 := List.append_inj' (show [(0 : Fin 3)] ++ [1] = ini ++ [x] from he) rfl
    obtain ⟨rfl, h2⟩ := h1
    cases h2
    rw [leastW, if_neg (n16 (hn 0 (by simp))), if_pos (s32 hs)]; rfl
  · have h1 := List.append_inj' (show [(0 : Fin 3), 1] ++ [2] = ini ++ [x] from he) rfl
    obtain ⟨rfl, h2⟩ := h1
    cases h2
    rw [leastW, if_neg (n16 (hn 0 (by simp))), if_neg (n32 (hn 1 (by simp)))]; rfl

set_option maxRecDepth 100000 in
set_option maxHeartbeats 600000 in
theorem Least_calls (b : Nat) (w : World) (hb : b < 18446744073709551616) (hT : Tw w) : Calls Tryz.prog 134 #[.int .u64 (b : Int)] w fun o w' => o = .returned (.int .i64 (leastW b)) ∧ Below w.heap.size w w' := by
  have HT := Lib.hid hT
  have HU := Lib.hid (fun x W h => turn_from x b W hb h)
  have hmx : Tryz.prog.follows .mixedOrders = true := by kernel_rfl
  clear hT
  refine (callsIn_wide (n := 5)).1 ?_
  refine callsIn_of_wp_marks Tryz.func134 rfl trivial ?_ rfl
  simp only [Tryz.ntmps134, List.size_toArray, List.length_cons, List.length_nil, Nat.reduceAdd, Nat.reduceSub, Array.replicate_succ, Array.replicate_zero, List.push_toArray, List.append_toArray, List.nil_append, List.cons_append]
  gi_wp2
  refine scope_in ?_
  gi_wp2
  refine label_in ?_
  gi_wp2_with (refine ⟨trivial, ?_⟩; gi_at_call 174; refine (asc_in _ _).mono ?_; rintro o w1 ⟨rfl, rfl⟩)
  obtain ⟨W0, hW0⟩ : ∃ W0, W0 = (w.alloc (.cells #[.int .u64 (b : Int)] 25)).alloc (.cells #[.int .i64 64] 3) := ⟨_, rfl⟩
  have a1 : At W0 w.heap.size #[.int .u64 (b : Int)] 25 := by
    rw [hW0]; exact (At.new w _ _).alloc _
  have a2 : At W0 (w.heap.size + 1) #[.int .i64 64] 3 := by
    rw [hW0]; exact At.new1 w _ _ _
  have hB0 : Below w.heap.size w W0 := by rw [hW0]; exact below_al (below_al (Below.refl _ w) _) _
  have hs0 : W0.heap.size = w.heap.size + 2 := by rw [hW0]; simp
  rw [← hW0]
  have HS0 := Lib.hid hs0
  have HT0 := Lib.hid (HT.out.below hB0)
  clear hW0 hs0
  refine wpIn_rangeFunc_ownH rfl (by omega) (gf := 206) (lb := #[]) rfl trivial (enters_of Tryz.func206 (by kernel_rfl) rfl)
    (asc_stops (5 - 1) (by omega) _ HT0.out.1) KeepsWalks.trans (fun W l o o' _ h _ hw => KeepsWalks.putObj o' h hw) (Below.refl _ _) (fun _ => rfl)
    (fun pre W => (((∀ y ∈ pre, narO b (frW y) = none) ∧ At W w.heap.size #[.int .u64 (b : Int)] 25) ∧ At W (w.heap.size + 1) #[.int .i64 64] 3) ∧ Below w.heap.size w W)
    (fun c pre W => (c = .exit 0 ∧ ∃ (ini : List (Fin 3)) (x : Fin 3), pre = ini ++ [x] ∧ (narO b (frW x)).isSome = true ∧ (∀ y ∈ ini, narO b (frW y) = none) ∧ At W (w.heap.size + 1) #[.int .i64 (frW x)] 3) ∧ Below w.heap.size w W)
    (OwnFrom.and (OwnFrom.and (OwnFrom.and (ownFrom_pure _ _) (Own.from (at_own _ _ _) _)) (Own.from (at_own _ _ _) _)) (ownFrom_below (Nat.le_refl _) (by rw [HS0.out]; omega)))
    (fun c => OwnFrom.and (fun _ _ _ _ hs hg hr => by
      obtain ⟨h1, ini, x, h2, h3, h4, h5⟩ := hs
      exact ⟨h1, ini, x, h2, h3, h4, at_kept h5 hg (fun r e => (hr r e).2)⟩) (ownFrom_below (Nat.le_refl _) (by rw [HS0.out]; omega)))
    ⟨⟨⟨by simp, a1⟩, a2⟩, hB0⟩
    (fun x a' W => ∃ C, w.heap.size + 2 ≤ C ∧ At W C #[.int .i64 (frK x), .int .i64 (frP x), .int .i64 (frW x)] 227 ∧ a' = { tmps := #[.int .u64 (b : Int), .pointer (some ⟨w.heap.size, 0, none⟩), .int .i64 0, .pointer (some ⟨w.heap.size + 1, 0, none⟩), .pointer (some ⟨C, 0, none⟩), undef, undef, .func (.func 206) #[] #[], .agg #[.int .i64 (frK x), .int .i64 (frP x), .int .i64 (frW x)], undef, undef, undef, undef, undef, undef, undef, undef, undef, undef, undef], defers := [] })
    (fun x a' _ _ _ _ hs hg hr => by
      obtain ⟨C, h1, h2, h3⟩ := hs
      exact ⟨C, h1, at_kept h2 hg (fun r e => (hr r e).2), h3⟩)
    ?_ ?_ ?_ ?_
  · intro l pre x W K hI hK
    have hz : w.heap.size + 2 ≤ W.heap.size := by have := hI.1.2.lt; omega
    have HI := Lib.hid hI
    have HK := Lib.hid hK
    clear hI hK a1 a2 hB0
    simp only [frV]
    gi_wp2
    obtain ⟨⟨⟨i1, i2⟩, i3⟩, i6⟩ := HI.out
    exact HK.out _ _ ((KeepsOthers.alloc _ _).from _) (KeepsWalks.alloc _ _) ⟨⟨⟨i1, i2.alloc _⟩, i3.alloc _⟩, below_al i6 _⟩ ⟨_, hz, At.new _ _ _, rfl⟩
  · rintro l pre x a' W hl hlo ⟨⟨⟨i1, i2⟩, i3⟩, i6⟩ ⟨C, hC, h2, rfl⟩ hlen
    have HI1 := Lib.hid i1
    have HI2 := Lib.hid (show At W.drew _ _ _ from i2)
    have HI3 := Lib.hid (show At W.drew _ _ _ from i3)
    have HI6 := Lib.hid i6.drew
    have HKe := Lib.hid (KeepsOthers.drew W)
    have HC := Lib.hid (show At W.drew _ _ _ from h2)
    have HUx := Lib.hid (HU.out x)
    obtain ⟨R, hR⟩ : ∃ R, narO b (frW x) = R := ⟨_, rfl⟩
    rw [hR] at HUx
    have HR := Lib.hid hR
    clear i1 i2 i3 i6 h2 a1 a2 hB0 hlo hR
    rcases R with _ | c
    · simp only [trV] at HUx
      gi_wp2
      refine region_round hmx (by kernel_rfl) (by rintro ⟨_, _, h⟩; exact h) ?_
      refine wpAny_of_held (S := fun w' => w'.cell? ⟨w.heap.size, 0, none⟩ = some (.int .u64 (b : Int)) ∧ w'.cell? ⟨C, 0, none⟩ = some (.int .i64 (frK x)) ∧ w'.cell? ⟨C, 1, none⟩ = some (.int .i64 (frP x)) ∧ w'.cell? ⟨C, 2, none⟩ = some (.int .i64 (frW x))) _ _ _ _ ?_
      have hHeld : W.drew.cell? ⟨w.heap.size, 0, none⟩ = some (.int .u64 (b : Int)) ∧ W.drew.cell? ⟨C, 0, none⟩ = some (.int .i64 (frK x)) ∧ W.drew.cell? ⟨C, 1, none⟩ = some (.int .i64 (frP x)) ∧ W.drew.cell? ⟨C, 2, none⟩ = some (.int .i64 (frW x)) := ⟨HI2.out.c 0 rfl, HC.out.c 0 rfl, HC.out.c 1 rfl, HC.out.c 2 rfl⟩
      refine wpAnyH_take (i := 0) (v := .int .u64 (b : Int)) rfl (by kernel_rfl) (by kernel_rfl) (by kernel_rfl) (fun _ _ _ h => h) (Or.inl ⟨by rfl, by rintro w ⟨h1, h2, h3, h4⟩; go_simp⟩) hHeld ?_
      refine wpAnyH_take (i := 2) (v := .agg #[.int .i64 (frK x), .int .i64 (frP x), .int .i64 (frW x)]) rfl (by kernel_rfl) (by kernel_rfl) (by kernel_rfl) (fun _ _ _ h => h) (Or.inl ⟨by rfl, by rintro w ⟨h1, h2, h3, h4⟩; go_simp⟩) hHeld ?_
      refine wpAnyH_ready (rs := [1]) (by kernel_rfl) (by simp) ?_
      refine AllReadyH.cons rfl (fun K hK => ?_) AllReadyH.nil
      go_simp
      refine (widest_calls _ (HT.out.below HI6.out).1).mono ?_
      rintro o w2 ⟨rfl, hb2⟩
      unfold fmV
      have J2 := Lib.hid (HI2.out.below hb2)
      have J3 := Lib.hid (HI3.out.below hb2)
      have JC := Lib.hid (HC.out.below hb2)
      have J6 := Lib.hid (below_next HI6.out hb2)
      have JK := Lib.hid (HKe.out.trans (keepsO_below hb2))
      clear hb2 HI2 HI3 HC HI6 HKe hHeld
      refine hK.out _ _ ⟨J2.out.c 0 rfl, JC.out.c 0 rfl, JC.out.c 1 rfl, JC.out.c 2 rfl⟩ (fun hHeld => ?_)
      clear hK K
      refine wpAnyH_ready (rs := [3]) (by kernel_rfl) (by simp) ?_
      refine AllReadyH.cons rfl (fun K hK => ?_) AllReadyH.nil
      go_simp
      refine (HUx.out _ (HT.out.below J6.out).2).mono ?_
      rintro o w3 ⟨rfl, hb3⟩
      have M2 := Lib.hid (J2.out.below hb3)
      have M3 := Lib.hid (J3.out.below hb3)
      have MC := Lib.hid (JC.out.below hb3)
      have M6 := Lib.hid (below_next J6.out hb3)
      have MK := Lib.hid (JK.out.trans (keepsO_below hb3))
      clear hb3 J2 J3 JC J6 JK hHeld
      refine hK.out _ _ ⟨M2.out.c 0 rfl, MC.out.c 0 rfl, MC.out.c 1 rfl, MC.out.c 2 rfl⟩ (fun hHeld => ?_)
      clear hK K
      refine wpAnyH_take (i := 4) (v := .tuple #[.int .u64 0, .bool false]) rfl (by kernel_rfl) (by kernel_rfl) (by kernel_rfl) (fun _ _ _ h => h) (Or.inl ⟨by rfl, by rintro w ⟨h1, h2, h3, h4⟩; go_simp⟩) hHeld ?_
      refine wpAnyH_take (i := 5) (v := .int .u64 0) rfl (by kernel_rfl) (by kernel_rfl) (by kernel_rfl) (fun _ _ _ h => h) (Or.inl ⟨by rfl, by rintro w ⟨h1, h2, h3, h4⟩; go_simp⟩) hHeld ?_
      refine wpAnyH_take (i := 6) (v := .bool false) rfl (by kernel_rfl) (by kernel_rfl) (by kernel_rfl) (fun _ _ _ h => h) (Or.inl ⟨by rfl, by rintro w ⟨h1, h2, h3, h4⟩; go_simp⟩) hHeld ?_
      refine wpAnyH_take (i := 7) (v := .int .u64 0) rfl (by kernel_rfl) (by kernel_rfl) (by kernel_rfl) (fun _ _ _ h => h) (Or.inl ⟨by rfl, by rintro w ⟨h1, h2, h3, h4⟩; go_simp⟩) hHeld ?_
      refine wpAnyH_take (i := 8) (v := .bool false) rfl (by kernel_rfl) (by kernel_rfl) (by kernel_rfl) (fun _ _ _ h => h) (Or.inl ⟨by rfl, by rintro w ⟨h1, h2, h3, h4⟩; go_simp⟩) hHeld ?_
      refine wpAnyH_done (by kernel_rfl) ?_ _
      clear hHeld
      gi_wp2
      refine ⟨MK.out.from _, MK.out.walks, ⟨⟨?_, M2.out⟩, M3.out⟩, M6.out⟩
      intro y hy
      rcases List.mem_append.1 hy with h | h
      · exact HI1.out y h
      · simp at h; subst h; exact HR.out
    · simp only [trV] at HUx
      gi_wp2
      refine region_round hmx (by kernel_rfl) (by rintro ⟨_, _, h⟩; exact h) ?_
      refine wpAny_of_held (S := fun w' => w'.cell? ⟨w.heap.size, 0, none⟩ = some (.int .u64 (b : Int)) ∧ w'.cell? ⟨C, 0, none⟩ = some (.int .i64 (frK x)) ∧ w'.cell? ⟨C, 1, none⟩ = some (.int .i64 (frP x)) ∧ w'.cell? ⟨C, 2, none⟩ = some (.int .i64 (frW x))) _ _ _ _ ?_
      have hHeld : W.drew.cell? ⟨w.heap.size, 0, none⟩ = some (.int .u64 (b : Int)) ∧ W.drew.cell? ⟨C, 0, none⟩ = some (.int .i64 (frK x)) ∧ W.drew.cell? ⟨C, 1, none⟩ = some (.int .i64 (frP x)) ∧ W.drew.cell? ⟨C, 2, none⟩ = some (.int .i64 (frW x)) := ⟨HI2.out.c 0 rfl, HC.out.c 0 rfl, HC.out.c 1 rfl, HC.out.c 2 rfl⟩
      refine wpAnyH_take (i := 0) (v := .int .u64 (b : Int)) rfl (by kernel_rfl) (by kernel_rfl) (by kernel_rfl) (fun _ _ _ h => h) (Or.inl ⟨by rfl, by rintro w ⟨h1, h2, h3, h4⟩; go_simp⟩) hHeld ?_
      refine wpAnyH_take (i := 2) (v := .agg #[.int .i64 (frK x), .int .i64 (frP x), .int .i64 (frW x)]) rfl (by kernel_rfl) (by kernel_rfl) (by kernel_rfl) (fun _ _ _ h => h) (Or.inl ⟨by rfl, by rintro w ⟨h1, h2, h3, h4⟩; go_simp⟩) hHeld ?_
      refine wpAnyH_ready (rs := [1]) (by kernel_rfl) (by simp) ?_
      refine AllReadyH.cons rfl (fun K hK => ?_) AllReadyH.nil
      go_simp
      refine (widest_calls _ (HT.out.below HI6.out).1).mono ?_
      rintro o w2 ⟨rfl, hb2⟩
      unfold fmV
      have J2 := Lib.hid (HI2.out.below hb2)
      have J3 := Lib.hid (HI3.out.below hb2)
      have JC := Lib.hid (HC.out.below hb2)
      have J6 := Lib.hid (below_next HI6.out hb2)
      have JK := Lib.hid (HKe.out.trans (keepsO_below hb2))
      clear hb2 HI2 HI3 HC HI6 HKe hHeld
      refine hK.out _ _ ⟨J2.out.c 0 rfl, JC.out.c 0 rfl, JC.out.c 1 rfl, JC.out.c 2 rfl⟩ (fun hHeld => ?_)
      clear hK K
      refine wpAnyH_ready (rs := [3]) (by kernel_rfl) (by simp) ?_
      refine AllReadyH.cons rfl (fun K hK => ?_) AllReadyH.nil
      go_simp
      refine (HUx.out _ (HT.out.below J6.out).2).mono ?_
      rintro o w3 ⟨rfl, hb3⟩
      have M2 := Lib.hid (J2.out.below hb3)
      have M3 := Lib.hid (J3.out.below hb3)
      have MC := Lib.hid (JC.out.below hb3)
      have M6 := Lib.hid (below_next J6.out hb3)
      have MK := Lib.hid (JK.out.trans (keepsO_below hb3))
      clear hb3 J2 J3 JC J6 JK hHeld
      refine hK.out _ _ ⟨M2.out.c 0 rfl, MC.out.c 0 rfl, MC.out.c 1 rfl, MC.out.c 2 rfl⟩ (fun hHeld => ?_)
      clear hK K
      refine wpAnyH_take (i := 4) (v := .tuple #[.int .u64 (c : Int), .bool true]) rfl (by kernel_rfl) (by kernel_rfl) (by kernel_rfl) (fun _ _ _ h => h) (Or.inl ⟨by rfl, by rintro w ⟨h1, h2, h3, h4⟩; go_simp⟩) hHeld ?_
      refine wpAnyH_take (i := 5) (v := .int .u64 (c : Int)) rfl (by kernel_rfl) (by kernel_rfl) (by kernel_rfl) (fun _ _ _ h => h) (Or.inl ⟨by rfl, by rintro w ⟨h1, h2, h3, h4⟩; go_simp⟩) hHeld ?_
      refine wpAnyH_take (i := 6) (v := .bool true) rfl (by kernel_rfl) (by kernel_rfl) (by kernel_rfl) (fun _ _ _ h => h) (Or.inl ⟨by rfl, by rintro w ⟨h1, h2, h3, h4⟩; go_simp⟩) hHeld ?_
      refine wpAnyH_take (i := 7) (v := .int .u64 (c : Int)) rfl (by kernel_rfl) (by kernel_rfl) (by kernel_rfl) (fun _ _ _ h => h) (Or.inl ⟨by rfl, by rintro w ⟨h1, h2, h3, h4⟩; go_simp⟩) hHeld ?_
      refine wpAnyH_take (i := 8) (v := .bool true) rfl (by kernel_rfl) (by kernel_rfl) (by kernel_rfl) (fun _ _ _ h => h) (Or.inl ⟨by rfl, by rintro w ⟨h1, h2, h3, h4⟩; go_simp⟩) hHeld ?_
      refine wpAnyH_done (by kernel_rfl) ?_ _
      clear hHeld
      have d2 := MC.out.c 2 rfl
      have k0 := M3.out.c 0 rfl
      have m0 := M3.out.f 0
      have z5 := M3.out.lt
      gi_wp2
      refine ⟨(MK.out.trans (KeepsOthers.setCell _ _ _)).from _, ⟨rfl, pre, x, rfl, by rw [HR.out]; rfl, HI1.out, M3.out.set1 _⟩, below1 M6.out (by omega) _⟩
  · rintro D ys W hD rfl ⟨⟨⟨i1, i2⟩, i3⟩, i6⟩ hK
    have := i1 2 (by simp)
    rw [show frW 2 = 64 from rfl, narO, if_neg (by decide), if_neg (by decide), if_pos rfl] at this
    cases this
  · rintro D c pre W hD hpre ⟨⟨rfl, ini, x, h1, h2, h3, h4⟩, i6⟩ hK
    have HN := Lib.hid (least_of hpre h1 h2 h3)
    have HD := Lib.hid hK
    have HB := Lib.hid i6
    have c0 := h4.c 0 rfl
    clear h1 h2 h3 hK i6 h4 hpre a1 a2 hB0
    gi_wp2
    refine ⟨by simp, .inl ⟨_, _, rfl, run_takeDeferred HD.out, ?_⟩⟩
    refine ⟨_, results_tmp rfl _ _ _, ?_⟩
    exact ⟨by rw [HN.out]; rfl, HB.out.trans (belowK_b (w := w) (Nat.le_refl _) _ D _ _ (by have := HS0.out; omega) HD.out rfl rfl)⟩
end Go.Proofs.YtppapkpceejnkaaGreatDoor
