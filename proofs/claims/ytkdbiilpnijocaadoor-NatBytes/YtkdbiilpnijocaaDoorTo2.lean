/- The walk of To at naturals of more than 64 binary digits, and at texts that are none. -/
import Derived.Test.YtkdbiilpnijocaaDoorBack
import Derived.Test.YtkdbiilpnijocaaDoorFrm5
namespace Go.Proofs.YtkdbiilpnijocaaDoor
open Go.RowKit
open Go.Lib (decDigits nDigits)

/-- The variable of strconv's second error holds an error. -/
def ErrR (w : World) : Prop := ∃ te pe, w.cell? ⟨1, 0, none⟩ = some (.iface te pe)
theorem ErrR.lt {w : World} (h : ErrR w) : 1 < w.heap.size := by
  obtain ⟨te, pe, h⟩ := h
  rcases Nat.lt_or_ge 1 w.heap.size with h1 | h1
  · exact h1
  · exfalso
    have : w.heap[1]? = none := Array.getElem?_eq_none h1
    simp [World.cell?, this] at h
theorem ErrR.below {w w' : World} (h : ErrR w) (hb : Below w.heap.size w w') : ErrR w' := by
  have hl := h.lt
  obtain ⟨te, pe, h⟩ := h
  exact ⟨te, pe, (hb.cell (p := ⟨1, 0, none⟩) hl).trans h⟩

theorem starE : "*" ++ "errors.errorString" = "*errors.errorString" := by decide
theorem row121 (u : TypeId) (h : Tryd.prog.typeName? 3 u = some "*errors.errorString") : u = 121 :=
  typeName_ptr_named (nm := "errors.errorString") (by rw [starE]; kernel_rfl) (by kernel_rfl) (by decide) u (by rw [starE]; exact h)
theorem gRange : Tryd.prog.globalNamed "strconv.ErrRange" = some 1 := by kernel_rfl
theorem gRangeT : (Tryd.prog.globals[1]?).map (·.type) = some 64 := by kernel_rfl
theorem cells123 : Tryd.prog.cellsOf 123 = 1 := by kernel_rfl
theorem cells9 : Tryd.prog.cellsOf 9 = 1 := by kernel_rfl
theorem errR_of {W : World} (h : laidMetH Tryd.prog tabs5 W) : ErrR W := by
  have h3 := laidMet.tail (laidMet.tail (laidMet.tail (show laidMet Tryd.prog tabs5 W from h)))
  obtain ⟨a, s, hv, _⟩ := laid_sentinel h3 gRange gRangeT Tryd.underlying64 row121 Tryd.underlying121 Tryd.underlying123 rfl rfl Tryd.underlying9 cells123 cells9
  have h0 := World.var?_cell gRange hv 0
  exact ⟨_, _, by simpa using h0⟩

set_option maxRecDepth 100000 in
set_option maxHeartbeats 1000000 in
theorem To_no (s : ByteArray) (w : World) (h : isNat s.data.toList = false) : Calls Tryd.prog 31 #[.string s] w fun e w' => e = .returned (.tuple #[.int .u64 0, .bool false]) ∧ Below w.heap.size w w' := by
  have HA := Lib.hid h
  clear h
  go_enter Tryd.func31, Tryd.ntmps31
  go_wp2_with (go_at_call 19; refine (Right_no _ _ HA.out).mono ?_; rintro e w1 ⟨rfl, hb1⟩)
  go_ret2
  exact ⟨rfl, hb1⟩

set_option maxRecDepth 100000 in
set_option maxHeartbeats 1000000 in
theorem To_big (s : ByteArray) (w : World) (h : isNat s.data.toList = true) (hs : s.size ≤ 1000) (hge : 18446744073709551616 ≤ dv s.data.toList) (he : ErrR w) : Calls Tryd.prog 31 #[.string s] w fun e w' => e = .returned (.tuple #[.int .u64 0, .bool false]) ∧ Below w.heap.size w w' := by
  have HP := Lib.hid (show Lib.parseUintB 64 s.data.toList = .range by rw [parse_nat h, if_neg (by omega)])
  have HA := Lib.hid h
  have HE := Lib.hid he
  have hcall : ∀ w, ErrR w → Calls Tryd.prog 51 #[.string s, .int .i64 10, .int .i64 64] w fun e w' => ∃ N, e = .returned (.tuple #[.int .u64 18446744073709551615, .iface 97 (.pointer (some ⟨N, 0, none⟩))]) ∧ Below w.heap.size w w' := fun w ⟨te, pe, hc⟩ =>
    (Tryd.strconv_ParseUint_10_at64_range s (by omega) HP.out _ w hc (.inr ⟨te, pe, rfl⟩)).mono fun e w' ⟨N, h1, _, _, h4⟩ => ⟨N, h1, h4⟩
  have HC := Lib.hid hcall
  clear h hge he hcall
  go_enter Tryd.func31, Tryd.ntmps31
  go_wp2_with (first
    | (go_at_call 19; refine (Right_yes _ _ HA.out).mono ?_; rintro e w1 ⟨rfl, hb1⟩; have HB1 := Lib.hid hb1; have HE1 := Lib.hid (HE.out.below hb1); clear hb1)
    | (go_at_call 51; refine (HC.out _ HE1.out).mono ?_; rintro e w2 ⟨N, rfl, hb2⟩))
  go_ret2
  exact ⟨rfl, HB1.out.trans (hb2.mono HB1.out.size)⟩
end Go.Proofs.YtkdbiilpnijocaaDoor
