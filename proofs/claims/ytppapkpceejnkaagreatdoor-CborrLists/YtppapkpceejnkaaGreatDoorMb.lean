/- The program's own: setOf, has, formOf. The program's own: formOf, has. -/
import Derived.Test.YtppapkpceejnkaaGreatDoorMa
import Derived.Deep.RegionHeld3
import Derived.Laws.Bits64b

namespace Go.Proofs.YtppapkpceejnkaaGreatDoor
open Go.RowKit
set_option maxRecDepth 100000 in
theorem setOf_1_2_3_5_7_8 (B : Nat) (w : World) (c0 : w.cell? ⟨B, 0, none⟩ = some (.int .i64 1)) (c1 : w.cell? ⟨B, 1, none⟩ = some (.int .i64 2)) (c2 : w.cell? ⟨B, 2, none⟩ = some (.int .i64 3)) (c3 : w.cell? ⟨B, 3, none⟩ = some (.int .i64 5)) (c4 : w.cell? ⟨B, 4, none⟩ = some (.int .i64 7)) (c5 : w.cell? ⟨B, 5, none⟩ = some (.int .i64 8)) : Calls Tryz.prog 93 #[.slice (some ⟨B, 0, none⟩) 6 6] w fun o w' => o = .returned (.int .u64 430) ∧ w' = w := by
  go_enter Tryz.func93, Tryz.ntmps93
  go_wp2
  refine wp_loop_rounds 7 ?_
  rw [rounds_succ]
  go_wp2
  rw [rounds_succ]
  go_wp2
  rw [rounds_succ]
  go_wp2
  rw [rounds_succ]
  go_wp2
  rw [rounds_succ]
  go_wp2
  rw [rounds_succ]
  go_wp2
  rw [rounds_succ]
  go_wp2
  go_ret
  exact ⟨rfl, rfl⟩
set_option maxRecDepth 100000 in
theorem setOf_4_6 (B : Nat) (w : World) (c0 : w.cell? ⟨B, 0, none⟩ = some (.int .i64 4)) (c1 : w.cell? ⟨B, 1, none⟩ = some (.int .i64 6)) : Calls Tryz.prog 93 #[.slice (some ⟨B, 0, none⟩) 2 2] w fun o w' => o = .returned (.int .u64 80) ∧ w' = w := by
  go_enter Tryz.func93, Tryz.ntmps93
  go_wp2
  refine wp_loop_rounds 3 ?_
  rw [rounds_succ]
  go_wp2
  rw [rounds_succ]
  go_wp2
  rw [rounds_succ]
  go_wp2
  go_ret
  exact ⟨rfl, rfl⟩
set_option maxRecDepth 100000 in
theorem setOf_5_6_2_1_3 (B : Nat) (w : World) (c0 : w.cell? ⟨B, 0, none⟩ = some (.int .i64 5)) (c1 : w.cell? ⟨B, 1, none⟩ = some (.int .i64 6)) (c2 : w.cell? ⟨B, 2, none⟩ = some (.int .i64 2)) (c3 : w.cell? ⟨B, 3, none⟩ = some (.int .i64 1)) (c4 : w.cell? ⟨B, 4, none⟩ = some (.int .i64 3)) : Calls Tryz.prog 93 #[.slice (some ⟨B, 0, none⟩) 5 5] w fun o w' => o = .returned (.int .u64 110) ∧ w' = w := by
  go_enter Tryz.func93, Tryz.ntmps93
  go_wp2
  refine wp_loop_rounds 6 ?_
  rw [rounds_succ]
  go_wp2
  rw [rounds_succ]
  go_wp2
  rw [rounds_succ]
  go_wp2
  rw [rounds_succ]
  go_wp2
  rw [rounds_succ]
  go_wp2
  rw [rounds_succ]
  go_wp2
  go_ret
  exact ⟨rfl, rfl⟩
set_option maxRecDepth 100000 in
theorem setOf_9_10 (B : Nat) (w : World) (c0 : w.cell? ⟨B, 0, none⟩ = some (.int .i64 9)) (c1 : w.cell? ⟨B, 1, none⟩ = some (.int .i64 10)) : Calls Tryz.prog 93 #[.slice (some ⟨B, 0, none⟩) 2 2] w fun o w' => o = .returned (.int .u64 1536) ∧ w' = w := by
  go_enter Tryz.func93, Tryz.ntmps93
  go_wp2
  refine wp_loop_rounds 3 ?_
  rw [rounds_succ]
  go_wp2
  rw [rounds_succ]
  go_wp2
  rw [rounds_succ]
  go_wp2
  go_ret
  exact ⟨rfl, rfl⟩
set_option maxRecDepth 100000 in
theorem setOf_5 (B : Nat) (w : World) (c0 : w.cell? ⟨B, 0, none⟩ = some (.int .i64 5)) : Calls Tryz.prog 93 #[.slice (some ⟨B, 0, none⟩) 1 1] w fun o w' => o = .returned (.int .u64 32) ∧ w' = w := by
  go_enter Tryz.func93, Tryz.ntmps93
  go_wp2
  refine wp_loop_rounds 2 ?_
  rw [rounds_succ]
  go_wp2
  rw [rounds_succ]
  go_wp2
  go_ret
  exact ⟨rfl, rfl⟩
set_option maxRecDepth 100000 in
theorem setOf_11 (B : Nat) (w : World) (c0 : w.cell? ⟨B, 0, none⟩ = some (.int .i64 11)) : Calls Tryz.prog 93 #[.slice (some ⟨B, 0, none⟩) 1 1] w fun o w' => o = .returned (.int .u64 2048) ∧ w' = w := by
  go_enter Tryz.func93, Tryz.ntmps93
  go_wp2
  refine wp_loop_rounds 2 ?_
  rw [rounds_succ]
  go_wp2
  rw [rounds_succ]
  go_wp2
  go_ret
  exact ⟨rfl, rfl⟩
end Go.Proofs.YtppapkpceejnkaaGreatDoor

namespace Go.Proofs.YtppapkpceejnkaaGreatDoor
open Go.RowKit

/-- What a form allows. -/
structure Frm where
  kinds : Nat
  keys : Nat
  whole : Bool
  below : Nat
  width : Int
  narrow : Bool
def Frm.cells (f : Frm) : Array Value := #[.int .u64 (f.kinds : Int), .int .u64 (f.keys : Int), .bool f.whole, .int .u64 (f.below : Int), .int .i64 f.width, .bool f.narrow]
def frmOf (n : Int) : Frm := if n = 1 then ⟨430, 32, false, 0, 0, false⟩ else if n = 2 then ⟨2046, 110, true, 18446744073709551615, 16, false⟩ else if n = 3 then ⟨2046, 110, true, 18446744073709551615, 16, true⟩ else if n = 4 then ⟨2558, 110, true, 9223372036854775808, 32, false⟩ else ⟨0, 0, false, 0, 0, false⟩
theorem sizeF : (Tryz.prog.info? 112).map (·.size) = some 6 := by kernel_rfl
def hasB (S : Nat) (k : Int) : Bool := decide ((S / 2 ^ k.toNat) % 2 = 1)
set_option maxRecDepth 100000 in
set_option maxHeartbeats 4000000 in
theorem has_calls (S : Nat) (k : Int) (w : World) (hS : S = 430 ∨ S = 32 ∨ S = 2046 ∨ S = 110 ∨ S = 2558 ∨ S = 0) (h1 : 1 ≤ k) (h2 : k ≤ 11) : Calls Tryz.prog 94 #[.int .u64 (S : Int), .int .i64 k] w fun o w' => o = .returned (.bool (hasB S k)) ∧ w' = w := by
  have hk : k = 1 ∨ k = 2 ∨ k = 3 ∨ k = 4 ∨ k = 5 ∨ k = 6 ∨ k = 7 ∨ k = 8 ∨ k = 9 ∨ k = 10 ∨ k = 11 := by omega
  clear h1 h2
  rcases hS with rfl | rfl | rfl | rfl | rfl | rfl <;> rcases hk with rfl | rfl | rfl | rfl | rfl | rfl | rfl | rfl | rfl | rfl | rfl
  all_goals
    go_enter Tryz.func94, Tryz.ntmps94
    go_wp2
    go_ret
    exact ⟨rfl, rfl⟩
theorem Bx.nu4 (W : World) (o o' o'' o3 : Obj) (cs : Array Value) (T : TypeId) : Bx (((((W.alloc o).alloc o').alloc o'').alloc o3).alloc (.cells cs T)) (W.heap.size + 1 + 1 + 1 + 1) cs T := by
  have := Bx.new3 (W.alloc o) o' o'' o3 cs T
  rwa [World.size_alloc] at this
theorem Bx.nu5 (W : World) (o o' o'' o3 o4 : Obj) (cs : Array Value) (T : TypeId) : Bx ((((((W.alloc o).alloc o').alloc o'').alloc o3).alloc o4).alloc (.cells cs T)) (W.heap.size + 1 + 1 + 1 + 1 + 1) cs T := by
  have := Bx.nu4 (W.alloc o) o' o'' o3 o4 cs T
  rwa [World.size_alloc] at this
theorem Bx.nu6 (W : World) (o o' o'' o3 o4 o5 : Obj) (cs : Array Value) (T : TypeId) : Bx (((((((W.alloc o).alloc o').alloc o'').alloc o3).alloc o4).alloc o5).alloc (.cells cs T)) (W.heap.size + 1 + 1 + 1 + 1 + 1 + 1) cs T := by
  have := Bx.nu5 (W.alloc o) o' o'' o3 o4 o5 cs T
  rwa [World.size_alloc] at this
set_option maxRecDepth 100000 in
set_option maxHeartbeats 1000000 in
theorem formOf_t_calls (n : Int) (w : World) : Calls Tryz.prog 55 #[.int .i64 n] w fun o w' => o = .returned (.agg (frmOf n).cells) ∧ Below w.heap.size w w' := by
  have b1 : bits .or .u64 430 80 = 510 := by decide
  have b2 : bits .or .u64 510 1536 = 2046 := by decide
  have b3 : bits .or .u64 510 2048 = 2558 := by decide
  go_enter Tryz.func55, Tryz.ntmps55
  go_wp2_with fail
  refine (setOf_1_2_3_5_7_8 _ _ ((Bx.new1 w _ _ _).c 0 rfl) ((Bx.new1 w _ _ _).c 1 rfl) ((Bx.new1 w _ _ _).c 2 rfl) ((Bx.new1 w _ _ _).c 3 rfl) ((Bx.new1 w _ _ _).c 4 rfl) ((Bx.new1 w _ _ _).c 5 rfl)).mono ?_
  rintro o w' ⟨rfl, rfl⟩
  go_wp2_with fail
  refine (setOf_4_6 _ _ ((Bx.new2 w _ _ _ _).c 0 rfl) ((Bx.new2 w _ _ _ _).c 1 rfl)).mono ?_
  rintro o w' ⟨rfl, rfl⟩
  go_wp2_with fail
  refine (setOf_5_6_2_1_3 _ _ ((Bx.new3 w _ _ _ _ _).c 0 rfl) ((Bx.new3 w _ _ _ _ _).c 1 rfl) ((Bx.new3 w _ _ _ _ _).c 2 rfl) ((Bx.new3 w _ _ _ _ _).c 3 rfl) ((Bx.new3 w _ _ _ _ _).c 4 rfl)).mono ?_
  rintro o w' ⟨rfl, rfl⟩
  go_wp2_with fail
  refine (setOf_9_10 _ _ ((Bx.nu4 w _ _ _ _ _ _).c 0 rfl) ((Bx.nu4 w _ _ _ _ _ _).c 1 rfl)).mono ?_
  rintro o w' ⟨rfl, rfl⟩
  by_cases n1 : n = 1
  · have HF : Hid (frmOf n = ⟨430, 32, false, 0, 0, false⟩) := Lib.hid (by rw [frmOf, if_pos n1])
    go_wp2_with fail
    refine (setOf_5 _ _ ((Bx.nu6 w _ _ _ _ _ _ _ _).c 0 rfl)).mono ?_
    rintro o w' ⟨rfl, rfl⟩
    go_wp2_with fail
    refine bodyPost_ret (results_cell_row Tryz.results55 _ _ w.heap.size 112 _ (0, 0) _ rfl (((((((Bx.new w _ _).alloc _).alloc _).alloc _).alloc _).alloc _).alloc _) Tryz.underlying112 rfl sizeF) rfl ?_
    exact ⟨by rw [HF.out]; rfl, below_a (below_a (below_a (below_a (below_a (below_a (below_a (Below.refl _ w) _) _) _) _) _) _) _⟩
  · by_cases n2 : n = 2
    · have HF : Hid (frmOf n = ⟨2046, 110, true, 18446744073709551615, 16, false⟩) := Lib.hid (by rw [frmOf, if_neg n1, if_pos n2])
      go_wp2_with fail
      refine bodyPost_ret (results_cell_row Tryz.results55 _ _ w.heap.size 112 _ (0, 0) _ rfl ((((((Bx.new w _ _).alloc _).alloc _).alloc _).alloc _).alloc _) Tryz.underlying112 rfl sizeF) rfl ?_
      exact ⟨by rw [HF.out]; rfl, below_a (below_a (below_a (below_a (below_a (below_a (Below.refl _ w) _) _) _) _) _) _⟩
    · by_cases n3 : n = 3
      · have HF : Hid (frmOf n = ⟨2046, 110, true, 18446744073709551615, 16, true⟩) := Lib.hid (by rw [frmOf, if_neg n1, if_neg n2, if_pos n3])
        go_wp2_with fail
        refine bodyPost_ret (results_cell_row Tryz.results55 _ _ w.heap.size 112 _ (0, 0) _ rfl ((((((Bx.new w _ _).alloc _).alloc _).alloc _).alloc _).alloc _) Tryz.underlying112 rfl sizeF) rfl ?_
        exact ⟨by rw [HF.out]; rfl, below_a (below_a (below_a (below_a (below_a (below_a (Below.refl _ w) _) _) _) _) _) _⟩
      · by_cases n4 : n = 4
        · have HF : Hid (frmOf n = ⟨2558, 110, true, 9223372036854775808, 32, false⟩) := Lib.hid (by rw [frmOf, if_neg n1, if_neg n2, if_neg n3, if_pos n4])
          go_wp2_with fail
          refine (setOf_11 _ _ ((Bx.nu6 w _ _ _ _ _ _ _ _).c 0 rfl)).mono ?_
          rintro o w' ⟨rfl, rfl⟩
          go_wp2_with fail
          refine bodyPost_ret (results_cell_row Tryz.results55 _ _ w.heap.size 112 _ (0, 0) _ rfl (((((((Bx.new w _ _).alloc _).alloc _).alloc _).alloc _).alloc _).alloc _) Tryz.underlying112 rfl sizeF) rfl ?_
          exact ⟨by rw [HF.out]; rfl, below_a (below_a (below_a (below_a (below_a (below_a (below_a (Below.refl _ w) _) _) _) _) _) _) _⟩
        · have HF : Hid (frmOf n = ⟨0, 0, false, 0, 0, false⟩) := Lib.hid (by rw [frmOf, if_neg n1, if_neg n2, if_neg n3, if_neg n4])
          go_wp2_with fail
          refine bodyPost_ret (results_cell_row Tryz.results55 _ _ w.heap.size 112 _ (0, 0) _ rfl ((((((Bx.new w _ _).alloc _).alloc _).alloc _).alloc _).alloc _) Tryz.underlying112 rfl sizeF) rfl ?_
          exact ⟨by rw [HF.out]; rfl, below_a (below_a (below_a (below_a (below_a (below_a (Below.refl _ w) _) _) _) _) _) _⟩
end Go.Proofs.YtppapkpceejnkaaGreatDoor
