/- The walks of the document's own IsWidth, sizes, IsFinite, Widen. -/
import Derived.Test.YtgcalhnfoakggaaDoorMf
import Derived.Deep.QuietTactic
import Derived.BigQuiet
import Derived.Lib.Hide
import Derived.Laws.Bits64b
namespace Go.Proofs.YtgcalhnfoakggaaDoor
open Go.RowKit

/-- Binary digits cut off, joined. -/
theorem and_64 (a k m : Nat) (hm : m = 2 ^ k - 1) (hk : k ≤ 63) (ha : a < 18446744073709551616) (x y : Int) (hx : x = (a : Int)) (hy : y = (m : Int)) : bits .and .u64 x y = ((a % 2 ^ k : Nat) : Int) := by
  subst hx hy hm
  have h1 : 2 ^ k ≤ 2 ^ 63 := Nat.pow_le_pow_right (by decide) hk
  have h2 : (2 : Nat) ^ 63 = 9223372036854775808 := by decide
  rw [bits_and_u64_nat a (2 ^ k - 1) ha (by omega), Nat.and_two_pow_sub_one_eq_mod]
theorem or_64 (h l k : Nat) (hl : l < 2 ^ k) (hh : h % 2 ^ k = 0) (h1 : h + l < 18446744073709551616) (x y : Int) (hx : x = (h : Int)) (hy : y = (l : Int)) : bits .or .u64 x y = ((h + l : Nat) : Int) := by
  subst hx hy
  rw [bits_or_u64_nat h l (by omega) (by omega)]
  obtain ⟨q, rfl⟩ : ∃ q, h = 2 ^ k * q := ⟨h / 2 ^ k, by rw [Nat.mul_div_cancel' (Nat.dvd_of_mod_eq_zero hh)]⟩
  rw [Nat.two_pow_add_eq_or_of_lt hl]

/-- What a call that widens tells. -/
def WidP (r : Option Nat) (w : World) (o : Ending) (w' : World) : Prop := o = .returned (.tuple #[.int .u64 (r.getD 0 : Nat), .int .i64 (if r.isSome = true then 0 else 2)]) ∧ Below w.heap.size w w'
end Go.Proofs.YtgcalhnfoakggaaDoor
