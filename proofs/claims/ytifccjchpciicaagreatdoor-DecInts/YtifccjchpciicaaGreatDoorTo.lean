/- The walk of nat's To. -/
import Derived.Test.YtifccjchpciicaaGreatDoorNR
import Derived.Test.YtifccjchpciicaaGreatDoorSh
import Derived.Test.YtifccjchpciicaaGreatDoorEr
import Derived.Lib.ParseIntBCases
import Derived.Lib.SmallJoins
namespace Go.Proofs.YtifccjchpciicaaGreatDoor
open Go.RowKit
open Go.Lib (decDigits nDigits)

theorem parse_m (l : List UInt8) : l.all isD = true → ∀ acc, acc ≤ 18446744073709551615 → Lib.parseUintM 18446744073709551615 acc l = if l.foldl (fun a c => a * 10 + (c.toNat - 48)) acc ≤ 18446744073709551615 then .ok (l.foldl (fun a c => a * 10 + (c.toNat - 48)) acc) else .range := by
  have mono : ∀ (m : List UInt8) (a : Nat), a ≤ m.foldl (fun a c => a * 10 + (c.toNat - 48)) a := by
    intro m
    induction m with
    | nil => intro a; exact Nat.le_refl _
    | cons c m ih => intro a; rw [List.foldl_cons]; have := ih (a * 10 + (c.toNat - 48)); omega
  induction l with
  | nil => intro _ acc h; rw [Lib.parseUintM, List.foldl_nil, if_pos h]
  | cons c l ih =>
    intro h acc ha
    rw [List.all_cons, Bool.and_eq_true] at h
    have hc := (isD_iff c).1 h.1
    have hm := mono l (acc * 10 + (c.toNat - 48))
    rw [Lib.parseUintM, if_pos hc, List.foldl_cons]
    by_cases h1 : 1844674407370955162 ≤ acc
    · rw [if_pos h1, if_neg (by omega)]
    · rw [if_neg h1]
      by_cases h2 : 18446744073709551615 < acc * 10 + (c.toNat - 48)
      · rw [if_pos h2, if_neg (by omega)]
      · rw [if_neg h2, ih h.2 _ (by omega)]

theorem parse_nat {l : List UInt8} (h : isNat l = true) : Lib.parseUintB 64 l = if dv l ≤ 18446744073709551615 then .ok (dv l) else .range := by
  obtain ⟨h1, _, _, h4⟩ := isNat_parts h
  rw [Lib.parseUintB, if_neg h1]
  exact parse_m l h4 0 (by omega)

set_option maxRecDepth 100000 in
set_option maxHeartbeats 1000000 in
theorem To_yes (s : ByteArray) (w : World) (h : isNat s.data.toList = true) (hs : s.size ≤ 1000) (hlt : dv s.data.toList < 18446744073709551616) : Calls Tryz.prog 15 #[.string s] w fun e w' => e = .returned (.tuple #[.int .u64 (dv s.data.toList : Nat), .bool true]) ∧ Below w.heap.size w w' := by
  have HP := Lib.hid (show Lib.parseUintB 64 s.data.toList = .ok (dv s.data.toList) by rw [parse_nat h, if_pos (by omega)])
  have HA := Lib.hid h
  clear h
  go_enter Tryz.func15, Tryz.ntmps15
  go_wp2_with (first
    | (go_at_call 29; refine (Right_yes _ _ HA.out).mono ?_; rintro e w1 ⟨rfl, hb1⟩; have HB1 := Lib.hid hb1; clear hb1)
    | (go_at_call 32; refine (Tryz.strconv_ParseUint_10_at64_ok s (by omega) _ HP.out _).mono ?_; rintro e w2 ⟨rfl, hw2⟩; have HW2 := Lib.hid hw2; clear hw2))
  go_ret2
  refine ⟨rfl, ?_⟩
  rcases HW2.out with rfl | rfl
  · exact HB1.out
  · exact HB1.out.trans (Joins.below_bytesWorld _ _ _ _ HB1.out.size)
set_option maxRecDepth 100000 in
set_option maxHeartbeats 1000000 in
theorem To_no (s : ByteArray) (w : World) (h : isNat s.data.toList = false) : Calls Tryz.prog 15 #[.string s] w fun e w' => e = .returned (.tuple #[.int .u64 0, .bool false]) ∧ Below w.heap.size w w' := by
  have HA := Lib.hid h
  clear h
  go_enter Tryz.func15, Tryz.ntmps15
  go_wp2_with (go_at_call 29; refine (Right_no _ _ HA.out).mono ?_; rintro e w1 ⟨rfl, hb1⟩)
  go_ret2
  exact ⟨rfl, hb1⟩

set_option maxRecDepth 100000 in
set_option maxHeartbeats 1000000 in
theorem To_big (s : ByteArray) (w : World) (h : isNat s.data.toList = true) (hs : s.size ≤ 1000) (hge : 18446744073709551616 ≤ dv s.data.toList) (he : ErrR w) : Calls Tryz.prog 15 #[.string s] w fun e w' => e = .returned (.tuple #[.int .u64 0, .bool false]) ∧ Below w.heap.size w w' := by
  have HP := Lib.hid (show Lib.parseUintB 64 s.data.toList = .range by rw [parse_nat h, if_neg (by omega)])
  have HA := Lib.hid h
  have HE := Lib.hid he
  have hcall : ∀ w, ErrR w → Calls Tryz.prog 32 #[.string s, .int .i64 10, .int .i64 64] w fun e w' => ∃ N, e = .returned (.tuple #[.int .u64 18446744073709551615, .iface 109 (.pointer (some ⟨N, 0, none⟩))]) ∧ Below w.heap.size w w' := fun w ⟨te, pe, hc⟩ =>
    (Tryz.strconv_ParseUint_10_at64_range s (by omega) HP.out _ w hc (.inr ⟨te, pe, rfl⟩)).mono fun e w' ⟨N, h1, _, _, h4⟩ => ⟨N, h1, h4⟩
  have HC := Lib.hid hcall
  clear h hge he hcall
  go_enter Tryz.func15, Tryz.ntmps15
  go_wp2_with (first
    | (go_at_call 29; refine (Right_yes _ _ HA.out).mono ?_; rintro e w1 ⟨rfl, hb1⟩; have HB1 := Lib.hid hb1; have HE1 := Lib.hid (HE.out.below hb1); clear hb1)
    | (go_at_call 32; refine (HC.out _ HE1.out).mono ?_; rintro e w2 ⟨N, rfl, hb2⟩))
  go_ret2
  exact ⟨rfl, HB1.out.trans (hb2.mono HB1.out.size)⟩
end Go.Proofs.YtifccjchpciicaaGreatDoor
