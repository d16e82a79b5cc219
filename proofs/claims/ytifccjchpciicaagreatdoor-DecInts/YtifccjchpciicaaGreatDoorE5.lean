/- The walks of slices.Index, slices.Contains at few characters, of sign. -/
import Derived.Test.YtifccjchpciicaaGreatDoorE4
import Derived.LoopN
import Derived.Lib.OthersKept
import Derived.Laws.RangeAny
namespace Go.Proofs.YtifccjchpciicaaGreatDoor
open Go.RowKit
open Go.Lib (decDigits nDigits)

set_option maxRecDepth 100000 in
theorem idx1 (C : Nat) (c v : Int) (w : World) (hc : w.cell? ⟨C, 0, none⟩ = some (.int .i32 c)) : Calls Tryz.prog 94 #[.slice (some ⟨C, 0, none⟩) 1 1, .int .i32 v] w fun o w' => o = .returned (.int .i64 (if v = c then 0 else -1)) ∧ w' = w := by
  by_cases h : v = c
  · have h2 : (v == c) = true := by simpa using h
    rw [if_pos h]
    clear h
    go_enter Tryz.func94, Tryz.ntmps94
    go_wp2
    refine wp_loop_rounds 1 ?_
    rw [rounds_succ]
    go_wp2
    go_ret
    exact ⟨rfl, rfl⟩
  · have h2 : (v == c) = false := by simpa using h
    rw [if_neg h]
    go_enter Tryz.func94, Tryz.ntmps94
    go_wp2
    refine wp_loop_rounds 2 ?_
    rw [rounds_succ]
    go_wp2
    rw [rounds_succ]
    go_wp2
    go_ret
    exact ⟨rfl, rfl⟩

set_option maxRecDepth 100000 in
theorem idx2 (C : Nat) (c d v : Int) (w : World) (hc : w.cell? ⟨C, 0, none⟩ = some (.int .i32 c)) (hd : w.cell? ⟨C, 1, none⟩ = some (.int .i32 d)) : Calls Tryz.prog 94 #[.slice (some ⟨C, 0, none⟩) 2 2, .int .i32 v] w fun o w' => o = .returned (.int .i64 (if v = c then 0 else if v = d then 1 else -1)) ∧ w' = w := by
  by_cases h : v = c
  · have h2 : (v == c) = true := by simpa using h
    rw [if_pos h]
    clear h
    go_enter Tryz.func94, Tryz.ntmps94
    go_wp2
    refine wp_loop_rounds 1 ?_
    rw [rounds_succ]
    go_wp2
    go_ret
    exact ⟨rfl, rfl⟩
  · have h2 : (v == c) = false := by simpa using h
    rw [if_neg h]
    by_cases h3 : v = d
    · have h4 : (v == d) = true := by simpa using h3
      rw [if_pos h3]
      clear h3
      go_enter Tryz.func94, Tryz.ntmps94
      go_wp2
      refine wp_loop_rounds 2 ?_
      rw [rounds_succ]
      go_wp2
      rw [rounds_succ]
      go_wp2
      go_ret
      exact ⟨rfl, rfl⟩
    · have h4 : (v == d) = false := by simpa using h3
      rw [if_neg h3]
      go_enter Tryz.func94, Tryz.ntmps94
      go_wp2
      refine wp_loop_rounds 3 ?_
      rw [rounds_succ]
      go_wp2
      rw [rounds_succ]
      go_wp2
      rw [rounds_succ]
      go_wp2
      go_ret
      exact ⟨rfl, rfl⟩

set_option maxRecDepth 100000 in
theorem con1 (C : Nat) (c v : Int) (w : World) (hc : w.cell? ⟨C, 0, none⟩ = some (.int .i32 c)) : Calls Tryz.prog 71 #[.slice (some ⟨C, 0, none⟩) 1 1, .int .i32 v] w fun o w' => o = .returned (.bool (decide (v = c))) ∧ w' = w := by
  have HI := Lib.hid (idx1 C c v w hc)
  by_cases h : v = c
  · rw [show decide (v = c) = true from by simpa using h]
    rw [if_pos h] at HI
    clear hc h
    go_enter Tryz.func71, Tryz.ntmps71
    go_wp2_with (go_at_call 94; refine HI.out.mono ?_; rintro o w1 ⟨rfl, rfl⟩)
    go_ret
    exact ⟨rfl, rfl⟩
  · rw [show decide (v = c) = false from by simpa using h]
    rw [if_neg h] at HI
    clear hc h
    go_enter Tryz.func71, Tryz.ntmps71
    go_wp2_with (go_at_call 94; refine HI.out.mono ?_; rintro o w1 ⟨rfl, rfl⟩)
    go_ret
    exact ⟨rfl, rfl⟩

set_option maxRecDepth 100000 in
theorem con2 (C : Nat) (c d v : Int) (w : World) (hc : w.cell? ⟨C, 0, none⟩ = some (.int .i32 c)) (hd : w.cell? ⟨C, 1, none⟩ = some (.int .i32 d)) : Calls Tryz.prog 71 #[.slice (some ⟨C, 0, none⟩) 2 2, .int .i32 v] w fun o w' => o = .returned (.bool (decide (v = c) || decide (v = d))) ∧ w' = w := by
  obtain ⟨x, b, hx, hb, hxb⟩ : ∃ (x : Int) (b : Bool), (if v = c then (0 : Int) else if v = d then 1 else -1) = x ∧ (decide (v = c) || decide (v = d)) = b ∧ decide ((0 : Int) ≤ x) = b := by
    refine ⟨_, _, rfl, rfl, ?_⟩
    by_cases h : v = c
    · rw [if_pos h]; simp [h]
    · by_cases h2 : v = d
      · rw [if_neg h, if_pos h2]; simp [h2]
      · rw [if_neg h, if_neg h2]; simp [h, h2]
  have HI := Lib.hid (idx2 C c d v w hc hd)
  rw [hx] at HI
  rw [hb]
  have HXB := Lib.hid hxb
  clear hc hd hx hb hxb
  go_enter Tryz.func71, Tryz.ntmps71
  go_wp2_with (go_at_call 94; refine HI.out.mono ?_; rintro o w1 ⟨rfl, rfl⟩)
  go_ret
  exact ⟨by rw [← HXB.out]; rfl, rfl⟩

theorem ne_of_pos {s : ByteArray} (h : 0 < s.size) : s.data.toList ≠ [] := fun e => by rw [Lib.size_eq, e] at h; exact absurd h (by decide)

set_option maxRecDepth 100000 in
theorem sign_none (B : Nat) (sl : Value) (w : World) (hc : w.cell? ⟨B, 0, none⟩ = some (.string ⟨#[]⟩)) : Calls Tryz.prog 47 #[.pointer (some ⟨B, 0, none⟩), sl] w fun o w' => o = .returned (.int .i32 0) ∧ w' = w := by
  go_enter Tryz.func47, Tryz.ntmps47
  go_wp2
  go_ret
  exact ⟨rfl, rfl⟩

set_option maxRecDepth 100000 in
theorem sign_no (B : Nat) (s : ByteArray) (sl : Value) (w : World) (hc : w.cell? ⟨B, 0, none⟩ = some (.string s)) (h0 : 0 < s.size) (hct : Calls Tryz.prog 71 #[sl, .int .i32 ((byteAt s 0).toNat : Int)] w fun o w' => o = .returned (.bool false) ∧ w' = w) :
    Calls Tryz.prog 47 #[.pointer (some ⟨B, 0, none⟩), sl] w fun o w' => o = .returned (.int .i32 0) ∧ w' = w := by
  have hne : ¬ s.toList = [] := ne_toList (ne_of_pos h0)
  have h02 : (s.toList == []) = false := beq_eq_false_iff_ne.2 hne
  have h03 : s.toList.isEmpty = false := by simpa using hne
  have hi0 : (0 : Int) < (s.size : Int) := by omega
  have hbt : (s[0]'h0).toNat = (byteAt s 0).toNat := by rw [byteAt_eq s 0 h0]
  have HW : Hid (wrap32 ((byteAt s 0).toNat : Int) = ((byteAt s 0).toNat : Int)) := Lib.hid (by have := (byteAt s 0).toNat_lt; unfold wrap32; omega)
  have HC := Lib.hid hct
  clear hct
  go_enter Tryz.func47, Tryz.ntmps47
  go_wp2_with fail
  rw [HW.out]
  refine HC.out.mono ?_
  rintro o w1 ⟨rfl, rfl⟩
  go_wp2
  go_ret
  exact ⟨rfl, rfl⟩

set_option maxRecDepth 100000 in
theorem sign_yes (B : Nat) (s : ByteArray) (sl : Value) (w : World) (hc : w.cell? ⟨B, 0, none⟩ = some (.string s)) (hf : w.frozen? ⟨B, 0, none⟩ = false) (h0 : 0 < s.size) (hct : Calls Tryz.prog 71 #[sl, .int .i32 ((byteAt s 0).toNat : Int)] w fun o w' => o = .returned (.bool true) ∧ w' = w) :
    Calls Tryz.prog 47 #[.pointer (some ⟨B, 0, none⟩), sl] w fun o w' => o = .returned (.int .i32 ((byteAt s 0).toNat : Int)) ∧ w' = w.setCell ⟨B, 0, none⟩ (.string (s.extract 1 s.size)) := by
  have hne : ¬ s.toList = [] := ne_toList (ne_of_pos h0)
  have h02 : (s.toList == []) = false := beq_eq_false_iff_ne.2 hne
  have h03 : s.toList.isEmpty = false := by simpa using hne
  have hi0 : (0 : Int) < (s.size : Int) := by omega
  have hi1 : (1 : Int) ≤ (s.size : Int) := by omega
  have hbt : (s[0]'h0).toNat = (byteAt s 0).toNat := by rw [byteAt_eq s 0 h0]
  have HW : Hid (wrap32 ((byteAt s 0).toNat : Int) = ((byteAt s 0).toNat : Int)) := Lib.hid (by have := (byteAt s 0).toNat_lt; unfold wrap32; omega)
  have HC := Lib.hid hct
  clear hct
  go_enter Tryz.func47, Tryz.ntmps47
  go_wp2_with fail
  rw [HW.out]
  refine HC.out.mono ?_
  rintro o w1 ⟨rfl, rfl⟩
  go_wp2
  go_ret
  exact ⟨rfl, rfl⟩
end Go.Proofs.YtifccjchpciicaaGreatDoor
