/- The program's own: the iterator of forms. -/
import Derived.Test.YtgcalhnfoakggaaGreatDoorMh1
import Derived.LoopNIn
import Derived.RangeFuncKeeps
import Derived.RangeFuncWrites
import Derived.RangeFuncNested
import Derived.Laws.PanicsMore
namespace Go.Proofs.YtgcalhnfoakggaaGreatDoor
open Go.RowKit Go.Shelf

attribute [local go_sem] Oper.semAt_some

/-- The three forms, in their order. -/
def frK : Fin 3 → Int | 0 => 5 | 1 => 8 | 2 => 11
def frP : Fin 3 → Int | 0 => 10 | 1 => 23 | 2 => 52
def frW : Fin 3 → Int | 0 => 16 | 1 => 32 | 2 => 64
def frV (x : Fin 3) : Value := .agg #[.int .i64 (frK x), .int .i64 (frP x), .int .i64 (frW x)]
theorem ix0 (w : World) : (Instr.index 73 (.agg #[.int .i64 5, .int .i64 10, .int .i64 16, .int .i64 8, .int .i64 23, .int .i64 32, .int .i64 11, .int .i64 52, .int .i64 64]) (.int .i64 0)).run Tryz.prog w = .ok (.agg #[.int .i64 5, .int .i64 10, .int .i64 16]) w := by
  simp [Instr.index, run_underlying Tryz.underlying73, asIntOf, go_sem, part, Tryz.sizeOf42, Tryz.isAgg42]
theorem ix1 (w : World) : (Instr.index 73 (.agg #[.int .i64 5, .int .i64 10, .int .i64 16, .int .i64 8, .int .i64 23, .int .i64 32, .int .i64 11, .int .i64 52, .int .i64 64]) (.int .i64 1)).run Tryz.prog w = .ok (.agg #[.int .i64 8, .int .i64 23, .int .i64 32]) w := by
  simp [Instr.index, run_underlying Tryz.underlying73, asIntOf, go_sem, part, Tryz.sizeOf42, Tryz.isAgg42]
theorem ix2 (w : World) : (Instr.index 73 (.agg #[.int .i64 5, .int .i64 10, .int .i64 16, .int .i64 8, .int .i64 23, .int .i64 32, .int .i64 11, .int .i64 52, .int .i64 64]) (.int .i64 2)).run Tryz.prog w = .ok (.agg #[.int .i64 11, .int .i64 52, .int .i64 64]) w := by
  simp [Instr.index, run_underlying Tryz.underlying73, asIntOf, go_sem, part, Tryz.sizeOf42, Tryz.isAgg42]

set_option maxRecDepth 100000 in
set_option maxHeartbeats 600000 in
theorem asc1_in (n : Nat) (hn : 1 ≤ n) (l : Nat) (J Jx : List (Fin 3) → World → Prop)
    (hY : ∀ pre x W, J pre W → pre.length < 3 → YieldAt Fence.wide (n - 1) Tryz.prog l #[frV x] W fun e W' =>
      (e = .returned (.bool true) ∧ J (pre ++ [x]) W' ∧ KeepsWalks W W') ∨ (e = .returned (.bool false) ∧ Jx (pre ++ [x]) W'))
    (W : World) (hJ : AbidesFrom W.heap.size J) (hT : FrmT W) (h0 : J [] W) :
    CallsIn Fence.wide n Tryz.prog 42 #[.func (.yield l) #[] #[]] W fun e W' => (∃ v, e = .returned v) ∧
      ((∃ ys, ys = [0, 1, 2] ∧ J ys W') ∨ (∃ pre, (pre = [0] ∨ pre = [0, 1] ∨ pre = [0, 1, 2]) ∧ Jx pre W')) := by
  have c0 : W.cell? ⟨0, 0, none⟩ = some (.int .i64 5) := hT.cell 0 (by decide)
  have c1 : W.cell? ⟨0, 1, none⟩ = some (.int .i64 10) := hT.cell 1 (by decide)
  have c2 : W.cell? ⟨0, 2, none⟩ = some (.int .i64 16) := hT.cell 2 (by decide)
  have c3 : W.cell? ⟨0, 3, none⟩ = some (.int .i64 8) := hT.cell 3 (by decide)
  have c4 : W.cell? ⟨0, 4, none⟩ = some (.int .i64 23) := hT.cell 4 (by decide)
  have c5 : W.cell? ⟨0, 5, none⟩ = some (.int .i64 32) := hT.cell 5 (by decide)
  have c6 : W.cell? ⟨0, 6, none⟩ = some (.int .i64 11) := hT.cell 6 (by decide)
  have c7 : W.cell? ⟨0, 7, none⟩ = some (.int .i64 52) := hT.cell 7 (by decide)
  have c8 : W.cell? ⟨0, 8, none⟩ = some (.int .i64 64) := hT.cell 8 (by decide)
  have HY := Lib.hid hY
  have HJ := Lib.hid hJ
  have H0 := Lib.hid h0
  clear hY hJ hT h0
  refine callsIn_of_wp Tryz.func42 rfl trivial ?_ rfl
  simp only [Tryz.ntmps42, List.size_toArray, List.length_cons, List.length_nil, Nat.reduceAdd, Nat.reduceSub, Array.replicate_succ, Array.replicate_zero, List.push_toArray, List.append_toArray, List.nil_append, List.cons_append]
  gi_wp2
  refine wpIn_loop_rounds 4 ?_
  clear c0 c1 c2 c3 c4 c5 c6 c7 c8
  rw [roundsIn_succ]
  have hix := ix0
  have hj0 := HJ.out [] W (W.alloc (.cells #[.int .i64 5, .int .i64 10, .int .i64 16] 42)) none H0.out (World.grownBy_alloc W _ none) (fun r e => by cases e)
  obtain ⟨fn0, tm0, as0, bo0, hy0, hR0⟩ := HY.out [] 0 _ hj0 (by decide)
  simp only [frV, frK, frP, frW] at hy0 hR0
  have HR0 := Lib.hid hR0
  clear hR0 hj0
  gi_wp2
  refine HR0.out.mono ?_
  rintro e W1 (⟨rfl, hj, hk⟩ | ⟨rfl, hx⟩)
  rotate_left 1
  · have HX := Lib.hid hx
    clear hx
    gi_wp2
    refine bodyPost_ret (results_none rfl _ _ _) rfl ?_
    exact ⟨⟨_, rfl⟩, .inr ⟨_, .inl rfl, HX.out⟩⟩
  have J1 := Lib.hid hj
  clear hj hk hix hy0 HR0
  gi_wp2
  rw [roundsIn_succ]
  have hix := ix1
  have hj1 := HJ.out [0] W1 (W1.alloc (.cells #[.int .i64 8, .int .i64 23, .int .i64 32] 42)) none J1.out (World.grownBy_alloc W1 _ none) (fun r e => by cases e)
  obtain ⟨fn1, tm1, as1, bo1, hy1, hR1⟩ := HY.out [0] 1 _ hj1 (by decide)
  simp only [frV, frK, frP, frW] at hy1 hR1
  have HR1 := Lib.hid hR1
  clear hR1 hj1
  gi_wp2
  refine HR1.out.mono ?_
  rintro e W2 (⟨rfl, hj, hk⟩ | ⟨rfl, hx⟩)
  rotate_left 1
  · have HX := Lib.hid hx
    clear hx
    gi_wp2
    refine bodyPost_ret (results_none rfl _ _ _) rfl ?_
    exact ⟨⟨_, rfl⟩, .inr ⟨_, .inr (.inl rfl), HX.out⟩⟩
  have J2 := Lib.hid hj
  clear hj hk hix hy1 HR1
  gi_wp2
  rw [roundsIn_succ]
  have hix := ix2
  have hj2 := HJ.out [0, 1] W2 (W2.alloc (.cells #[.int .i64 11, .int .i64 52, .int .i64 64] 42)) none J2.out (World.grownBy_alloc W2 _ none) (fun r e => by cases e)
  obtain ⟨fn2, tm2, as2, bo2, hy2, hR2⟩ := HY.out [0, 1] 2 _ hj2 (by decide)
  simp only [frV, frK, frP, frW] at hy2 hR2
  have HR2 := Lib.hid hR2
  clear hR2 hj2
  gi_wp2
  refine HR2.out.mono ?_
  rintro e W3 (⟨rfl, hj, hk⟩ | ⟨rfl, hx⟩)
  rotate_left 1
  · have HX := Lib.hid hx
    clear hx
    gi_wp2
    refine bodyPost_ret (results_none rfl _ _ _) rfl ?_
    exact ⟨⟨_, rfl⟩, .inr ⟨_, .inr (.inr rfl), HX.out⟩⟩
  have J3 := Lib.hid hj
  clear hj hk hix hy2 HR2
  gi_wp2
  rw [roundsIn_succ]
  gi_wp2
  go_end0
  exact ⟨⟨_, rfl⟩, .inl ⟨_, rfl, J3.out⟩⟩

theorem asc_stops (n : Nat) (hn : 1 ≤ n) (w : World) (hT : FrmT w) :
    SeqStopsK Fence.wide n Tryz.prog 42 #[] (fun x : Fin 3 => #[frV x]) KeepsWalks (fun ys => ys = [0, 1, 2]) (fun pre => pre = [0] ∨ pre = [0, 1] ∨ pre = [0, 1, 2]) 3 w := fun l J Jx W hW hJ _ hY h0 =>
  asc1_in n hn l J Jx hY W hJ (hT.below hW) h0
set_option maxHeartbeats 400000 in
theorem ascending_calls (w : World) : Calls Tryz.prog 26 #[] w fun e w' => e = .returned (.func (.func 42) #[] #[]) ∧ w = w' := by
  go_enter Tryz.func26, Tryz.ntmps26
  go_wp2
  go_ret
  exact ⟨rfl, rfl⟩
end Go.Proofs.YtgcalhnfoakggaaGreatDoor
