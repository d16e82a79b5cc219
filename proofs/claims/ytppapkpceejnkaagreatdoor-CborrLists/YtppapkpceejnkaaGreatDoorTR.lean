/- The program's own: fitsNum, fitsFloat. -/
import Derived.Test.YtppapkpceejnkaaGreatDoorMb
import Derived.Test.YtppapkpceejnkaaGreatDoorMe
import Derived.Test.YtppapkpceejnkaaGreatDoorMi
import Derived.Test.YtppapkpceejnkaaGreatDoorMf
namespace Go.Proofs.YtppapkpceejnkaaGreatDoor
open Go.RowKit

/-- The block of a checker. -/
def Fx (W : World) (B : Nat) (F : Frm) : Prop := Bx W B F.cells 115
theorem Fx.six {W : World} {B : Nat} {F : Frm} (h : Fx W B F) : W.cell? ⟨B, 0, none⟩ = some (.int .u64 (F.kinds : Int)) ∧ W.cell? ⟨B, 1, none⟩ = some (.int .u64 (F.keys : Int)) ∧ W.cell? ⟨B, 2, none⟩ = some (.bool F.whole) ∧ W.cell? ⟨B, 3, none⟩ = some (.int .u64 (F.below : Int)) ∧ W.cell? ⟨B, 4, none⟩ = some (.int .i64 F.width) ∧ W.cell? ⟨B, 5, none⟩ = some (.bool F.narrow) :=
  ⟨Bx.c h 0 rfl, Bx.c h 1 rfl, Bx.c h 2 rfl, Bx.c h 3 rfl, Bx.c h 4 rfl, Bx.c h 5 rfl⟩
theorem Fx.new (W : World) (F : Frm) : Fx (W.alloc (.cells #[.int .u64 (F.kinds : Int), .int .u64 (F.keys : Int), .bool F.whole, .int .u64 (F.below : Int), .int .i64 F.width, .bool F.narrow] 115)) W.heap.size F := heap_alloc_new W _
theorem Fx.below {W W' : World} {B : Nat} {F : Frm} (h : Fx W B F) (hb : Below W.heap.size W W') : Fx W' B F := Bx.below h hb
def fitNum (F : Frm) (n : Bool) (s : ByteArray) (e : Int) : Bool := !F.whole || ((toI n s.data.toList e).isSome && (!tN (toI n s.data.toList e) || decide (tK (toI n s.data.toList e) ≤ F.below)))
set_option maxRecDepth 100000 in
theorem fitsNum_calls (F : Frm) (n : Bool) (s : ByteArray) (e : Int) (w : World) (hT : ErrR w) : Calls Tryz.prog 95 #[.agg F.cells, .agg #[.bool n, .string s, .int .i64 e]] w (BolP (fitNum F n s e) w) := by
  have HT := Lib.hid hT
  clear hT
  obtain ⟨R, hR⟩ : ∃ R, R = toI n s.data.toList e := ⟨_, rfl⟩
  have HR := Lib.hid hR
  have HTo : Hid (∀ W, ErrR W → Calls Tryz.prog 133 #[.agg #[.bool n, .string s, .int .i64 e]] W (ToP R W)) := Lib.hid (fun W h => by rw [hR]; exact pToInt_calls n s e W h)
  clear hR
  have HN := Lib.hid ((Fx.new w F))
  simp only [Frm.cells]
  go_enter Tryz.func95, Tryz.ntmps95
  cases hw : F.whole with
  | false =>
    go_wp2_with fail
    go_ret
    exact ⟨by rw [fitNum, hw]; rfl, below_a (below_a (Below.refl _ _) _) _⟩
  | true =>
    have HW := Lib.hid hw
    clear hw
    go_wp2_with fail
    refine (HTo.out _ (HT.out.below (below_a (below_a (Below.refl _ _) _) _))).mono ?_
    rintro o w1 ⟨rfl, hb1⟩
    have HB1 := Lib.hid (below_nx (below_a (below_a (Below.refl _ _) _) _) hb1)
    have c3 : w1.cell? ⟨w.heap.size, 3, none⟩ = some (.int .u64 (F.below : Int)) := by
      have h1 : Bx ((w.alloc (.cells #[.int .u64 (F.kinds : Int), .int .u64 (F.keys : Int), .bool true, .int .u64 (F.below : Int), .int .i64 F.width, .bool F.narrow] 115)).alloc (.cells #[.bool n, .string s, .int .i64 e] 24)) w.heap.size _ _ := (Bx.new w _ _).alloc _
      exact (h1.below hb1).c 3 rfl
    have HF : Hid (fitNum F n s e = (R.isSome && (!tN R || decide (tK R ≤ F.below)))) := Lib.hid (by rw [fitNum, HW.out, ← HR.out]; rfl)
    clear hb1
    go_wp2
    all_goals go_ret
    all_goals refine ⟨?_, HB1.out⟩
    all_goals rw [HF.out]
    all_goals (show Ending.returned (Value.bool _) = Ending.returned (Value.bool _); congr 2; simp_all)
theorem wid_lt {a b : Nat} {w : Int} (hb : b < 18446744073709551616) (h : widO b w = some a) : a < 18446744073709551616 := by
  rw [widO] at h
  split at h
  · split at h
    · rename_i h1; cases h; exact (nar_wid16 h1).2
    · cases h
  · split at h
    · split at h
      · rename_i h1; cases h; exact (nar_wid32 h1).2
      · cases h
    · split at h
      · cases h; exact hb
      · cases h
def fitFl (F : Frm) (u : Nat) (wd : Int) : Bool := if F.narrow then (leastW ((widO u wd).getD 0) == wd) else decide (F.width ≤ wd)
set_option maxRecDepth 100000 in
theorem fitsFloat_calls (F : Frm) (u : Nat) (wd : Int) (w : World) (hu : u < 18446744073709551616) (hT : Tw w) : Calls Tryz.prog 96 #[.agg F.cells, .int .u64 (u : Int), .int .i64 wd] w (BolP (fitFl F u wd) w) := by
  have HT := Lib.hid hT
  clear hT
  simp only [Frm.cells]
  go_enter Tryz.func96, Tryz.ntmps96
  cases hw : F.narrow with
  | false =>
    have HW := Lib.hid hw
    clear hw
    go_wp2_with fail
    go_ret
    refine ⟨?_, below_a (Below.refl _ _) _⟩
    rw [fitFl, HW.out]
    rfl
  | true =>
    have HW := Lib.hid hw
    clear hw
    go_wp2_with fail
    refine (Widen_calls u wd _ hu (HT.out.below (below_a (Below.refl _ _) _))).mono ?_
    rintro o w1 ⟨rfl, hb1⟩
    have HB1 := Lib.hid (below_nx (below_a (Below.refl _ _) _) hb1)
    clear hb1
    obtain ⟨x, hx, hxl⟩ : ∃ x, x = (widO u wd).getD 0 ∧ x < 18446744073709551616 := ⟨_, rfl, by
      cases hq : widO u wd with
      | none => simp
      | some y => exact wid_lt hu hq⟩
    have HV : Hid (∃ e, wdV (widO u wd) = .tuple #[.int .u64 (x : Int), .int .i64 e]) := Lib.hid (by
      cases hq : widO u wd with
      | none => rw [hx, hq]; exact ⟨2, rfl⟩
      | some y => rw [hx, hq]; exact ⟨0, rfl⟩)
    obtain ⟨e, he⟩ := HV.out
    rw [he]
    have HXx := Lib.hid hx
    clear hx he HV
    go_wp2_with fail
    refine (Least_calls x _ hxl (HT.out.below HB1.out)).mono ?_
    rintro o w2 ⟨rfl, hb2⟩
    have HB2 := Lib.hid (below_nx HB1.out hb2)
    clear hb2
    go_wp2
    all_goals go_ret
    all_goals refine ⟨?_, HB2.out⟩
    all_goals rw [fitFl, HW.out, ← HXx.out]
    all_goals rfl
end Go.Proofs.YtppapkpceejnkaaGreatDoor
