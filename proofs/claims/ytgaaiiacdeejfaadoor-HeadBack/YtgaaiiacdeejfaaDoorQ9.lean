/- The program's own: Size, IsShort; what its calls answer. -/
import Derived.Test.YtgaaiiacdeejfaaDoorQ8
namespace Go.Proofs.YtgaaiiacdeejfaaDoor
open Go.RowKit

/-- A call that answers so in every world that holds the listed table, and keeps what was there. -/
abbrev AnsH (f : FuncId) (args : Array Value) (v : Value) : Prop := ∀ w, SizT w → Calls Tryd.prog f args w fun e w' => e = .returned v ∧ Below w.heap.size w w'

set_option maxRecDepth 100000 in
theorem Size_ans (a : Nat) (ha : a < 18446744073709551616) : AnsH 16 #[.int .u64 (a : Int)] (.int .i64 (1 + (hext a : Int))) := fun w hT => by
  have HS := Lib.hid (fun W h => shortest_calls a W ha h)
  have hx := hext_le a
  have HT := Lib.hid hT
  clear ha hT
  obtain ⟨X, hX⟩ : ∃ X, X = hext a := ⟨_, rfl⟩
  rw [← hX] at HS hx ⊢
  clear hX
  go_enter Tryd.func16, Tryd.ntmps16
  go_wp2_with (first
    | (go_at_call 20; refine (HS.out _ HT.out).mono ?_; rintro e w1 ⟨rfl, hb1⟩; have HB1 := Lib.hid hb1; clear hb1)
    | (go_at_call 27; refine (whole_calls _ _ _ (by omega)).mono ?_; rintro o w3 ⟨rfl, hb3⟩))
  go_ret
  exact ⟨rfl, HB1.out.trans (hb3.mono HB1.out.size)⟩

theorem fldI (i b : Int) (w : World) : (Instr.field 41 (.agg #[.int .i64 i, .int .i64 b]) 0).run Tryd.prog w = .ok (.int .i64 i) w := by
  simp [Instr.field, run_underlying Tryd.underlying41, go_sem, part, asAgg, Tryd.isAgg3]
set_option maxRecDepth 100000 in
theorem IsShort_ans (k : Int) (a : Nat) (ha : a < 18446744073709551616) : AnsH 18 #[.int .i64 k, .int .u64 (a : Int)] (.bool (k == (hinfo a : Int))) := fun w hT => by
  have HS := Lib.hid (fun W h => shortest_calls a W ha h)
  have HT := Lib.hid hT
  clear ha hT
  obtain ⟨I, hI⟩ : ∃ I, I = hinfo a := ⟨_, rfl⟩
  rw [← hI] at HS ⊢
  clear hI
  have hfl := fldI
  go_enter Tryd.func18, Tryd.ntmps18
  go_wp2_with (go_at_call 20; refine (HS.out _ HT.out).mono ?_; rintro e w1 ⟨rfl, hb1⟩; have HB1 := Lib.hid hb1; clear hb1)
  go_ret
  exact ⟨rfl, HB1.out⟩

/-- What Make answers. -/
def mkB (m : Int) (a : Nat) : ByteArray := if 0 ≤ m ∧ m ≤ 7 then headB m.toNat a else noB
def mkE (m : Int) : Int := if 0 ≤ m ∧ m ≤ 7 then 0 else 2
theorem Make_ans (m : Int) (a : Nat) (ha : a < 18446744073709551616) : AnsH 11 #[.int .i64 m, .int .u64 (a : Int)] (.tuple #[.string (mkB m a), .int .i64 (mkE m)]) := fun w hT => by
  by_cases h : 0 ≤ m ∧ m ≤ 7
  · rw [mkB, mkE, if_pos h, if_pos h]
    have := Make_yes m.toNat a w (by omega) ha hT
    rwa [show ((m.toNat : Nat) : Int) = m by omega] at this
  · rw [mkB, mkE, if_neg h, if_neg h]
    exact Make_no m a w (by omega)
theorem Read_ans (s : ByteArray) : AnsH 13 #[.string s] (rdV (readT s)) := fun w hT => Read_calls s w hT

/-- The first forty bytes. -/
def cutH (s : ByteArray) : ByteArray := s.extract 0 (min s.size 40)
theorem cutH_size (s : ByteArray) : (cutH s).size ≤ 40 := by rw [cutH, ByteArray.size_extract]; omega
theorem cutH_long {s : ByteArray} (h : 40 ≤ s.size) : cutH s = s.extract 0 40 := by rw [cutH, Nat.min_eq_right h]
theorem cutH_short {s : ByteArray} (h : s.size ≤ 40) : cutH s = s := str_inj (by rw [cutH, Nat.min_eq_left h, Lib.extract_data, List.drop_zero, Nat.sub_zero]; exact List.take_of_length_le (by rw [size_data]; exact Nat.le_refl _))
set_option maxRecDepth 100000 in
set_option maxHeartbeats 1000000 in
theorem cutH_calls (s : ByteArray) (w : World) : Calls Tryd.prog 14 #[.string s] w fun e w' => e = .returned (.string (cutH s)) ∧ w = w' := by
  go_enter Tryd.func14, Tryd.ntmps14
  go_wp2
  · go_ret
    exact ⟨by rw [cutH_long (by omega)]; rfl, rfl⟩
  · go_ret
    exact ⟨by rw [cutH_short (by omega)]; rfl, rfl⟩
end Go.Proofs.YtgaaiiacdeejfaaDoor
