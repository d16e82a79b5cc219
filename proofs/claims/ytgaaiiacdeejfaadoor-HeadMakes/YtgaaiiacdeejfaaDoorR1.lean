/- The document's own: extra, info, Size, IsShort, Make. -/
import Derived.Test.YtgaaiiacdeejfaaDoorQ9
namespace Go.Proofs.YtgaaiiacdeejfaaDoor
open Go.RowKit

set_option maxRecDepth 100000 in
theorem rextra_calls (a : Nat) (w : World) : Calls Tryd.prog 23 #[.int .u64 (a : Int)] w fun e w' => e = .returned (.int .i64 (hext a : Int)) ∧ w = w' := by
  by_cases h0 : a < 24
  · have e : hext a = 0 := by unfold hext; (repeat' split) <;> omega
    have d0 : decide ((a : Int) < 24) = true := by simp; omega
    rw [e]
    clear h0 e
    go_enter Tryd.func23, Tryd.ntmps23
    go_wp2
    go_ret
    exact ⟨rfl, rfl⟩
  by_cases h1 : a < 256
  · have e : hext a = 1 := by unfold hext; (repeat' split) <;> omega
    have d0 : decide ((a : Int) < 24) = false := by simp; omega
    have d1 : decide ((a : Int) < 256) = true := by simp; omega
    rw [e]
    clear h0 h1 e
    go_enter Tryd.func23, Tryd.ntmps23
    go_wp2
    go_ret
    exact ⟨rfl, rfl⟩
  by_cases h2 : a < 65536
  · have e : hext a = 2 := by unfold hext; (repeat' split) <;> omega
    have d0 : decide ((a : Int) < 24) = false := by simp; omega
    have d1 : decide ((a : Int) < 256) = false := by simp; omega
    have d2 : decide ((a : Int) < 65536) = true := by simp; omega
    rw [e]
    clear h0 h1 h2 e
    go_enter Tryd.func23, Tryd.ntmps23
    go_wp2
    go_ret
    exact ⟨rfl, rfl⟩
  by_cases h3 : a < 4294967296
  · have e : hext a = 4 := by unfold hext; (repeat' split) <;> omega
    have d0 : decide ((a : Int) < 24) = false := by simp; omega
    have d1 : decide ((a : Int) < 256) = false := by simp; omega
    have d2 : decide ((a : Int) < 65536) = false := by simp; omega
    have d3 : decide ((a : Int) < 4294967296) = true := by simp; omega
    rw [e]
    clear h0 h1 h2 h3 e
    go_enter Tryd.func23, Tryd.ntmps23
    go_wp2
    go_ret
    exact ⟨rfl, rfl⟩
  have e : hext a = 8 := by unfold hext; (repeat' split) <;> omega
  have d0 : decide ((a : Int) < 24) = false := by simp; omega
  have d1 : decide ((a : Int) < 256) = false := by simp; omega
  have d2 : decide ((a : Int) < 65536) = false := by simp; omega
  have d3 : decide ((a : Int) < 4294967296) = false := by simp; omega
  rw [e]
  clear h0 h1 h2 h3 e
  go_enter Tryd.func23, Tryd.ntmps23
  go_wp2
  go_ret
  exact ⟨rfl, rfl⟩
/-- The info of so many bytes. -/
def infoN (n : Nat) : Nat := if n = 1 then 24 else if n = 2 then 25 else if n = 4 then 26 else 27
theorem info_of {a : Nat} (h : ¬ a < 24) : infoN (hext a) = hinfo a := by
  unfold hext hinfo infoN
  rw [if_neg h, if_neg h]
  repeat' split
  all_goals first | rfl | omega
set_option maxRecDepth 100000 in
theorem rinfo_calls (n : Nat) (w : World) (hn : n = 1 ∨ n = 2 ∨ n = 4 ∨ n = 8) : Calls Tryd.prog 24 #[.int .i64 (n : Int)] w fun e w' => e = .returned (.int .i64 (infoN n : Int)) ∧ w = w' := by
  rcases hn with rfl | rfl | rfl | rfl
  all_goals
    go_enter Tryd.func24, Tryd.ntmps24
    go_wp2
    go_ret
    exact ⟨rfl, rfl⟩
set_option maxRecDepth 100000 in
theorem rSize_ans (a : Nat) : AnsH 17 #[.int .u64 (a : Int)] (.int .i64 (1 + (hext a : Int))) := fun w _ => by
  have hx := hext_le a
  have HS := Lib.hid (fun W => rextra_calls a W)
  obtain ⟨X, hX⟩ : ∃ X, X = hext a := ⟨_, rfl⟩
  rw [← hX] at HS hx ⊢
  clear hX
  go_enter Tryd.func17, Tryd.ntmps17
  go_wp2_with (go_at_call 23; refine (HS.out _).mono ?_; rintro e w1 ⟨rfl, rfl⟩)
  go_ret
  exact ⟨rfl, Below.refl _ _⟩
theorem hext_pos {a : Nat} (h : ¬ a < 24) : hext a = 1 ∨ hext a = 2 ∨ hext a = 4 ∨ hext a = 8 := by
  unfold hext
  rw [if_neg h]
  repeat' split
  all_goals simp
set_option maxRecDepth 100000 in
theorem rIsShort_ans (k : Int) (a : Nat) (hk : (-9223372036854775808 : Int) ≤ k) (hk2 : k ≤ 9223372036854775807) : AnsH 19 #[.int .i64 k, .int .u64 (a : Int)] (.bool (k == (hinfo a : Int))) := fun w _ => by
  have HS := Lib.hid (fun W => rextra_calls a W)
  by_cases h : a < 24
  · have e1 : hext a = 0 := by rw [hext, if_pos h]
    have e2 : hinfo a = a := by rw [hinfo, if_pos h]
    rw [e1] at HS
    rw [e2]
    go_enter Tryd.func19, Tryd.ntmps19
    go_wp2_with (go_at_call 23; refine (HS.out _).mono ?_; rintro e w1 ⟨rfl, rfl⟩)
    go_ret
    refine ⟨congrArg (fun q => Ending.returned (.bool q)) ?_, Below.refl _ _⟩
    rw [Bool.eq_iff_iff, beq_iff_eq, beq_iff_eq, IntKind.wrap_u64]
    omega
  · have hp := hext_pos h
    have HI := Lib.hid (fun W => rinfo_calls _ W hp)
    rw [info_of h] at HI
    obtain ⟨X, hX⟩ : ∃ X, X = hext a := ⟨_, rfl⟩
    obtain ⟨I, hI⟩ : ∃ I, I = hinfo a := ⟨_, rfl⟩
    rw [← hX] at HS HI hp
    rw [← hI] at HI ⊢
    have h0 : ((X : Int) == 0) = false := by simp; omega
    clear hX hI hp h
    go_enter Tryd.func19, Tryd.ntmps19
    go_wp2_with (first
      | (go_at_call 23; refine (HS.out _).mono ?_; rintro e w1 ⟨rfl, rfl⟩)
      | (go_at_call 24; refine (HI.out _).mono ?_; rintro e w1 ⟨rfl, rfl⟩))
    go_ret
    exact ⟨rfl, Below.refl _ _⟩
end Go.Proofs.YtgaaiiacdeejfaaDoor
