/- A decimal as an argument, opened and shut. -/
import Derived.Test.YtgcalhnfoakggaaGreatDoorFr
import Derived.Lib.SmallJoins
namespace Go.Proofs.YtgcalhnfoakggaaGreatDoor
open Go.ChangeShapes Go.WideShapes Go.ChangeAt Go.RowKit Go.Joins

section
variable {H : Type} {enc : TypeId × Value → H} {w : World} {base : Nat} {spare : Nat → Bool} {held : Bool}
set_option maxRecDepth 100000 in
theorem dec_cells : Tryz.prog.cellsOf 34 = 3 := by kernel_rfl
set_option maxRecDepth 100000 in
theorem open_dec {r : Reach} {b0 : Nat} {v : Value} {d : DataW H} {ps : List MemPlace} (hval : Value.okWide Tryz.prog w r b0 34 v) (hd : DataW.Trod enc Tryz.prog w base spare held 34 v d ps) :
    ∃ (n : Bool) (s : ByteArray) (e : Int), v = .agg #[.bool n, .string s, .int .i64 e] ∧ d = .agg [.lit (.bool n), .lit (.string s.data.toList), .lit (.int .i64 e)] ∧ ps = [] ∧ s.size ≤ maxLen ∧ (Lit.int .i64 e).wf = true := by
  obtain ⟨c0, c1, c2, y0, y1, y2, m, rfl, rfl, rfl, hy0, hy1, hy2⟩ := open_agg3 Tryz.underlying34 (by kernel_rfl) dec_cells hval hd
  obtain ⟨n, e0, rfl⟩ := DataW.trod_bool Tryz.underlying4 hy0
  obtain ⟨s, e1, rfl, hs⟩ := DataW.trod_string Tryz.underlying9 hy1
  obtain ⟨e, e2, rfl, hw⟩ := DataW.trod_int Tryz.underlying3 hy2
  simp at e0 e1 e2
  subst e0 e1 e2
  exact ⟨n, s, e, rfl, rfl, rfl, hs, hw⟩
set_option maxRecDepth 100000 in
theorem shut_dec {n : Bool} {s : ByteArray} {e : Int} (hs : s.size ≤ maxLen) (hw : (Lit.int .i64 e).wf = true) :
    DataW.Trod enc Tryz.prog w base spare held 34 (.agg #[.bool n, .string s, .int .i64 e]) (.agg [.lit (.bool n), .lit (.string s.data.toList), .lit (.int .i64 e)]) [] :=
  shut_agg3 (y0 := (.lit (.bool n), [])) (y1 := (.lit (.string s.data.toList), [])) (y2 := (.lit (.int .i64 e), [])) Tryz.underlying34 (by kernel_rfl) dec_cells
    ⟨1, by simp [DataW.trod, Tryz.underlying4]⟩ ⟨1, by simp [DataW.trod, Tryz.underlying9, hs]⟩ ⟨1, by simp [DataW.trod, Tryz.underlying3, hw]⟩
end
end Go.Proofs.YtgcalhnfoakggaaGreatDoor
