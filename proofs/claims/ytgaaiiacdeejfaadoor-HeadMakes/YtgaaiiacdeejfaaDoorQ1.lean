/- The program's own: the listed table, the iterator of sizes. -/
import Derived.Test.YtgaaiiacdeejfaaDoorQA
namespace Go.Proofs.YtgaaiiacdeejfaaDoor
open Go.RowKit Go.Shelf

/-- The listed table of sizes. -/
def SizT (w : World) : Prop := Lib.TabIs Tryd.prog w "targum/head.sizes" .i64 [24, 1, 25, 2, 26, 4, 27, 8]
theorem gSiz : Tryd.prog.globalNamed "targum/head.sizes" = some 0 := by kernel_rfl
theorem SizT.below {A B : World} (h : SizT A) (hb : Below A.heap.size A B) : SizT B := by
  unfold SizT Lib.TabIs World.var? at *
  rw [gSiz] at *
  simp only [Option.bind_some] at *
  cases hA : A.heap[0]? with
  | none => rw [hA] at h; simp at h
  | some o =>
    have hlt : 0 < A.heap.size := (Array.getElem?_eq_some_iff.1 hA).1
    rw [hb.block _ hlt]; exact h
theorem SizT.cell {w : World} (h : SizT w) (i : Nat) (hi : i < 8) : w.cell? ⟨0, i, none⟩ = some (.int .i64 (([24, 1, 25, 2, 26, 4, 27, 8] : List Int).getD i 0)) :=
  Lib.TabIs.cell h gSiz i hi

attribute [local go_sem] Oper.semAt_some

/-- The four sizes, in their order. -/
def szI : Fin 4 → Int | 0 => 24 | 1 => 25 | 2 => 26 | 3 => 27
def szB : Fin 4 → Int | 0 => 1 | 1 => 2 | 2 => 4 | 3 => 8
def szV (x : Fin 4) : Value := .agg #[.int .i64 (szI x), .int .i64 (szB x)]
theorem hx0 (w : World) : (Instr.index 58 (.agg #[.int .i64 24, .int .i64 1, .int .i64 25, .int .i64 2, .int .i64 26, .int .i64 4, .int .i64 27, .int .i64 8]) (.int .i64 0)).run Tryd.prog w = .ok (.agg #[.int .i64 24, .int .i64 1]) w := by
  simp [Instr.index, run_underlying Tryd.underlying58, asIntOf, go_sem, part, Tryd.sizeOf41, Tryd.isAgg41]
theorem hx1 (w : World) : (Instr.index 58 (.agg #[.int .i64 24, .int .i64 1, .int .i64 25, .int .i64 2, .int .i64 26, .int .i64 4, .int .i64 27, .int .i64 8]) (.int .i64 1)).run Tryd.prog w = .ok (.agg #[.int .i64 25, .int .i64 2]) w := by
  simp [Instr.index, run_underlying Tryd.underlying58, asIntOf, go_sem, part, Tryd.sizeOf41, Tryd.isAgg41]
theorem hx2 (w : World) : (Instr.index 58 (.agg #[.int .i64 24, .int .i64 1, .int .i64 25, .int .i64 2, .int .i64 26, .int .i64 4, .int .i64 27, .int .i64 8]) (.int .i64 2)).run Tryd.prog w = .ok (.agg #[.int .i64 26, .int .i64 4]) w := by
  simp [Instr.index, run_underlying Tryd.underlying58, asIntOf, go_sem, part, Tryd.sizeOf41, Tryd.isAgg41]
theorem hx3 (w : World) : (Instr.index 58 (.agg #[.int .i64 24, .int .i64 1, .int .i64 25, .int .i64 2, .int .i64 26, .int .i64 4, .int .i64 27, .int .i64 8]) (.int .i64 3)).run Tryd.prog w = .ok (.agg #[.int .i64 27, .int .i64 8]) w := by
  simp [Instr.index, run_underlying Tryd.underlying58, asIntOf, go_sem, part, Tryd.sizeOf41, Tryd.isAgg41]

def preS (pre : List (Fin 4)) : Prop := pre = [0] ∨ pre = [0, 1] ∨ pre = [0, 1, 2] ∨ pre = [0, 1, 2, 3]
set_option maxRecDepth 100000 in
set_option maxHeartbeats 600000 in
theorem sizs1_in (n : Nat) (hn : 1 ≤ n) (l : Nat) (J Jx : List (Fin 4) → World → Prop)
    (hY : ∀ pre x W, J pre W → pre.length < 4 → YieldAt Fence.wide (n - 1) Tryd.prog l #[szV x] W fun e W' =>
      (e = .returned (.bool true) ∧ J (pre ++ [x]) W' ∧ KeepsWalks W W') ∨ (e = .returned (.bool false) ∧ Jx (pre ++ [x]) W'))
    (W : World) (hJ : AbidesFrom W.heap.size J) (hT : SizT W) (h0 : J [] W) :
    CallsIn Fence.wide n Tryd.prog 31 #[.func (.yield l) #[] #[]] W fun e W' => (∃ v, e = .returned v) ∧
      ((∃ ys, ys = [0, 1, 2, 3] ∧ J ys W') ∨ (∃ pre, preS pre ∧ Jx pre W')) := by
  have c0 : W.cell? ⟨0, 0, none⟩ = some (.int .i64 24) := hT.cell 0 (by decide)
  have c1 : W.cell? ⟨0, 1, none⟩ = some (.int .i64 1) := hT.cell 1 (by decide)
  have c2 : W.cell? ⟨0, 2, none⟩ = some (.int .i64 25) := hT.cell 2 (by decide)
  have c3 : W.cell? ⟨0, 3, none⟩ = some (.int .i64 2) := hT.cell 3 (by decide)
  have c4 : W.cell? ⟨0, 4, none⟩ = some (.int .i64 26) := hT.cell 4 (by decide)
  have c5 : W.cell? ⟨0, 5, none⟩ = some (.int .i64 4) := hT.cell 5 (by decide)
  have c6 : W.cell? ⟨0, 6, none⟩ = some (.int .i64 27) := hT.cell 6 (by decide)
  have c7 : W.cell? ⟨0, 7, none⟩ = some (.int .i64 8) := hT.cell 7 (by decide)
  have HY := Lib.hid hY
  have HJ := Lib.hid hJ
  have H0 := Lib.hid h0
  clear hY hJ hT h0
  refine callsIn_of_wp Tryd.func31 rfl trivial ?_ rfl
  simp only [Tryd.ntmps31, List.size_toArray, List.length_cons, List.length_nil, Nat.reduceAdd, Nat.reduceSub, Array.replicate_succ, Array.replicate_zero, List.push_toArray, List.append_toArray, List.nil_append, List.cons_append]
  gi_wp2
  refine wpIn_loop_rounds 5 ?_
  clear c0 c1 c2 c3 c4 c5 c6 c7
  rw [roundsIn_succ]
  have hix := hx0
  have hj0 := HJ.out [] W (W.alloc (.cells #[.int .i64 24, .int .i64 1] 41)) none H0.out (World.grownBy_alloc W _ none) (fun r e => by cases e)
  obtain ⟨fn0, tm0, as0, bo0, hy0, hR0⟩ := HY.out [] 0 _ hj0 (by decide)
  simp only [szV, szI, szB] at hy0 hR0
  have HR0 := Lib.hid hR0
  clear hR0 hj0
  gi_wp2
  refine HR0.out.mono ?_
  rintro e W1 (⟨rfl, hj, hk⟩ | ⟨rfl, hx⟩)
  rotate_left 1
  · have HX := Lib.hid hx
    clear hx
    gi_wp2
    refine bodyPost_ret (results_none rfl _ _ _) rfl ?_
    exact ⟨⟨_, rfl⟩, .inr ⟨_, .inl rfl, HX.out⟩⟩
  have J1 := Lib.hid hj
  clear hj hk hix hy0 HR0
  gi_wp2
  rw [roundsIn_succ]
  have hix := hx1
  have hj1 := HJ.out [0] W1 (W1.alloc (.cells #[.int .i64 25, .int .i64 2] 41)) none J1.out (World.grownBy_alloc W1 _ none) (fun r e => by cases e)
  obtain ⟨fn1, tm1, as1, bo1, hy1, hR1⟩ := HY.out [0] 1 _ hj1 (by decide)
  simp only [szV, szI, szB] at hy1 hR1
  have HR1 := Lib.hid hR1
  clear hR1 hj1
  gi_wp2
  refine HR1.out.mono ?_
  rintro e W2 (⟨rfl, hj, hk⟩ | ⟨rfl, hx⟩)
  rotate_left 1
  · have HX := Lib.hid hx
    clear hx
    gi_wp2
    refine bodyPost_ret (results_none rfl _ _ _) rfl ?_
    exact ⟨⟨_, rfl⟩, .inr ⟨_, .inr (.inl rfl), HX.out⟩⟩
  have J2 := Lib.hid hj
  clear hj hk hix hy1 HR1
  gi_wp2
  rw [roundsIn_succ]
  have hix := hx2
  have hj2 := HJ.out [0, 1] W2 (W2.alloc (.cells #[.int .i64 26, .int .i64 4] 41)) none J2.out (World.grownBy_alloc W2 _ none) (fun r e => by cases e)
  obtain ⟨fn2, tm2, as2, bo2, hy2, hR2⟩ := HY.out [0, 1] 2 _ hj2 (by decide)
  simp only [szV, szI, szB] at hy2 hR2
  have HR2 := Lib.hid hR2
  clear hR2 hj2
  gi_wp2
  refine HR2.out.mono ?_
  rintro e W3 (⟨rfl, hj, hk⟩ | ⟨rfl, hx⟩)
  rotate_left 1
  · have HX := Lib.hid hx
    clear hx
    gi_wp2
    refine bodyPost_ret (results_none rfl _ _ _) rfl ?_
    exact ⟨⟨_, rfl⟩, .inr ⟨_, .inr (.inr (.inl rfl)), HX.out⟩⟩
  have J3 := Lib.hid hj
  clear hj hk hix hy2 HR2
  gi_wp2
  rw [roundsIn_succ]
  have hix := hx3
  have hj3 := HJ.out [0, 1, 2] W3 (W3.alloc (.cells #[.int .i64 27, .int .i64 8] 41)) none J3.out (World.grownBy_alloc W3 _ none) (fun r e => by cases e)
  obtain ⟨fn3, tm3, as3, bo3, hy3, hR3⟩ := HY.out [0, 1, 2] 3 _ hj3 (by decide)
  simp only [szV, szI, szB] at hy3 hR3
  have HR3 := Lib.hid hR3
  clear hR3 hj3
  gi_wp2
  refine HR3.out.mono ?_
  rintro e W4 (⟨rfl, hj, hk⟩ | ⟨rfl, hx⟩)
  rotate_left 1
  · have HX := Lib.hid hx
    clear hx
    gi_wp2
    refine bodyPost_ret (results_none rfl _ _ _) rfl ?_
    exact ⟨⟨_, rfl⟩, .inr ⟨_, .inr (.inr (.inr rfl)), HX.out⟩⟩
  have J4 := Lib.hid hj
  clear hj hk hix hy3 HR3
  gi_wp2
  rw [roundsIn_succ]
  gi_wp2
  go_end0
  exact ⟨⟨_, rfl⟩, .inl ⟨_, rfl, J4.out⟩⟩

theorem sizs_stops (n : Nat) (hn : 1 ≤ n) (w : World) (hT : SizT w) :
    SeqStopsK Fence.wide n Tryd.prog 31 #[] (fun x : Fin 4 => #[szV x]) KeepsWalks (fun ys => ys = [0, 1, 2, 3]) preS 4 w := fun l J Jx W hW hJ _ hY h0 =>
  sizs1_in n hn l J Jx hY W hJ (hT.below hW) h0
set_option maxHeartbeats 400000 in
theorem sizs_calls (w : World) : Calls Tryd.prog 29 #[] w fun e w' => e = .returned (.func (.func 31) #[] #[]) ∧ w = w' := by
  go_enter Tryd.func29, Tryd.ntmps29
  go_wp2
  go_ret
  exact ⟨rfl, rfl⟩
theorem sizs_in (n : Nat) (w : World) : CallsIn Fence.wide n Tryd.prog 29 #[] w fun e w' => e = .returned (.func (.func 31) #[] #[]) ∧ w = w' := (callsIn_wide (n := n)).2 (sizs_calls w)
end Go.Proofs.YtgaaiiacdeejfaaDoor
