/- The walk of FloatWays. -/
import Derived.Test.YtgcalhnfoakggaaGreatDoorK1
namespace Go.Proofs.YtgcalhnfoakggaaGreatDoor
open Go.RowKit
open Go.Lib (decDigits nDigits)

theorem ans_nar {b : Nat} (wd : Int) (hb : b < 18446744073709551616) : Ans 10 #[.int .u64 (b : Int), .int .i64 wd] (trV (narO b wd)) := fun W h => Narrow_calls b wd W hb h.1
theorem ans_wid {b : Nat} (wd : Int) (hb : b < 18446744073709551616) : Ans 8 #[.int .u64 (b : Int), .int .i64 wd] (wdV (widO b wd)) := fun W h => Widen_calls b wd W hb h.1

theorem trV_some {o : Option Nat} {c : Nat} (h : o = some c) : trV o = .tuple #[.int .u64 (c : Int), .bool true] := by rw [h]; rfl
theorem trV_parts (o : Option Nat) : trV o = .tuple #[.int .u64 ((o.getD 0 : Nat) : Int), .bool o.isSome] := by cases o <;> rfl
theorem wdV_some {o : Option Nat} {c : Nat} (h : o = some c) : wdV o = .tuple #[.int .u64 (c : Int), .int .i64 0] := by rw [h]; rfl
theorem nar_lt {a b : Nat} {w : Int} (ha : a < 18446744073709551616) (h : narO a w = some b) : b < 18446744073709551616 := by
  rw [narO] at h
  split at h
  · split at h
    · rename_i h1; cases h; exact Nat.lt_trans (nar_lt16 ha h1) (by decide)
    · cases h
  · split at h
    · split at h
      · rename_i h1; cases h; exact Nat.lt_trans (nar_lt32 ha h1) (by decide)
      · cases h
    · split at h
      · cases h; exact ha
      · cases h
end Go.Proofs.YtgcalhnfoakggaaGreatDoor
