/- What the program's own functions are to tell; what a call answers in every world that holds the tables. -/
import Derived.Test.YtfmhpeeecejpbaaRd3
import Derived.Test.YtfmhpeeecejpbaaRu
namespace Go.Proofs.Ytfmhpeeecejpbaa
open Go.RowKit

def codeB (s : ByteArray) : ByteArray := ⟨(code s.data.toList).toArray⟩
def rawB (t : ByteArray) : ByteArray := ⟨(raw t.data.toList).toArray⟩
def pairB (s : ByteArray) : ByteArray := ⟨(pairs s.data.toList).toArray⟩
def unpB (t : ByteArray) : ByteArray := ⟨(unpair t.data.toList).toArray⟩
theorem codeB_data (s : ByteArray) : (codeB s).data.toList = code s.data.toList := by simp [codeB]
theorem rawB_data (s : ByteArray) : (rawB s).data.toList = raw s.data.toList := by simp [rawB]
theorem pairB_data (s : ByteArray) : (pairB s).data.toList = pairs s.data.toList := by simp [pairB]
theorem unpB_data (s : ByteArray) : (unpB s).data.toList = unpair s.data.toList := by simp [unpB]

def CodePost (s : ByteArray) (w : World) (e : Ending) (w' : World) : Prop :=
  ((s.size ≤ 400 ∧ e = .returned (.tuple #[.string (codeB s), .int .i64 0])) ∨ (400 < s.size ∧ e = .returned (.tuple #[.string noB, .int .i64 30]))) ∧ Below w.heap.size w w'
def PairPost (s : ByteArray) (w : World) (e : Ending) (w' : World) : Prop :=
  ((s.size ≤ 400 ∧ e = .returned (.tuple #[.string (pairB s), .int .i64 0])) ∨ (400 < s.size ∧ e = .returned (.tuple #[.string noB, .int .i64 30]))) ∧ Below w.heap.size w w'

theorem rCode_calls (s : ByteArray) (w : World) : Calls Try.prog 12 #[.string s] w (CodePost s w) := by
  by_cases h : s.size ≤ 400
  · exact (rCode_yes s w h).mono fun e w' ⟨h1, h2⟩ => ⟨.inl ⟨h, h1⟩, h2⟩
  · exact (rCode_no s w (by omega)).mono fun e w' ⟨h1, h2⟩ => ⟨.inr ⟨by omega, h1⟩, h2⟩
theorem rPairs_calls (s : ByteArray) (w : World) : Calls Try.prog 17 #[.string s] w (PairPost s w) := by
  by_cases h : s.size ≤ 400
  · exact (rPairs_yes s w h).mono fun e w' ⟨h1, h2⟩ => ⟨.inl ⟨h, h1⟩, h2⟩
  · exact (rPairs_no s w (by omega)).mono fun e w' ⟨h1, h2⟩ => ⟨.inr ⟨by omega, h1⟩, h2⟩
end Go.Proofs.Ytfmhpeeecejpbaa
