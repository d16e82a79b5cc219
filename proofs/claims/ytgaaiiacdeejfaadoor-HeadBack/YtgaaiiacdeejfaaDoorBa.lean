/- Small words on strings, their bytes, and rows of bytes that a call owns. -/
import Derived.Test.YtgaaiiacdeejfaaDoorChecked
import Derived.Test.YtgaaiiacdeejfaaDoorM
import Derived.WalkKit
import Derived.WalkMore
import Derived.Lib.Hide
import Derived.Lib.Strings
import Derived.Lib.OwnBridge
import Derived.Lib.SmallJoins
import Derived.Maps.AppendAt
import Derived.Deep.LoopGhost
import Derived.Deep.Cut
import Derived.Deep.CutRange
import Derived.Deep.DeepCutAuto
import Derived.StillTail
import Derived.StillTailTactics
namespace Go.Proofs.YtgaaiiacdeejfaaDoor
open Go.RowKit

def byteAt (s : ByteArray) (i : Nat) : UInt8 := s.data[i]?.getD 0
theorem byteAt_eq (s : ByteArray) (i : Nat) (h : i < s.size) : byteAt s i = s[i] := by simp [byteAt, h]; rfl
theorem byteAt_list (s : ByteArray) (i : Nat) : byteAt s i = s.data.toList[i]?.getD 0 := by simp [byteAt]
theorem byteAt_past (s : ByteArray) (i : Nat) (h : s.size ≤ i) : byteAt s i = 0 := by
  rw [byteAt_list, List.getElem?_eq_none (by simpa using h)]; rfl
theorem str_inj {a b : ByteArray} (h : a.data.toList = b.data.toList) : a = b := ByteArray.ext (Array.toList_inj.1 h)
theorem take_snoc (s : ByteArray) (k : Nat) (h : k < s.size) : s.data.toList.take (k + 1) = s.data.toList.take k ++ [byteAt s k] := by
  have hl : k < s.data.toList.length := by simpa using h
  rw [List.take_succ_eq_append_getElem hl, byteAt_list, List.getElem?_eq_getElem hl]; rfl
theorem drop_cons (s : ByteArray) (k : Nat) (h : k < s.size) : s.data.toList.drop k = byteAt s k :: s.data.toList.drop (k + 1) := by
  have hl : k < s.data.toList.length := by simpa using h
  rw [List.drop_eq_getElem_cons hl, byteAt_list, List.getElem?_eq_getElem hl]; rfl
theorem size_data (s : ByteArray) : s.data.toList.length = s.size := by simp
/-- No bytes. -/
def noB : ByteArray := ⟨#[]⟩

def encB (b : UInt8) : Value := .int .u8 (b.toNat : Int)
theorem conv_own {base : Nat} {v : Value} {n : Nat} {zs : List UInt8} {w : World} (h : w.ownsRow base 5 1 v n (zs.map encB)) :
    (convert 38 9 v).run Tryd.prog w = .ok (.string ⟨zs.toArray⟩) w := by
  by_cases hv : v = .slice none 0 0
  · subst hv
    have h2 : zs = [] := by
      rcases h.2 with ⟨_, h2⟩ | ⟨_, _, _, e0, _⟩
      · have := h.1
        simp only [List.length_map, Nat.mul_one] at this
        exact List.eq_nil_of_length_eq_zero (by omega)
      · cases e0
    subst h2
    rw [run_convert_bytes_string w 38 9 5 none 0 0 Tryd.underlying38 Tryd.underlying5 Tryd.underlying9]
    rfl
  · obtain ⟨g, cap, rfl, hb, hlt, hnc, hcm, hl, hh⟩ := Lib.holds_of_ownsRow h hv
    subst hl
    refine run_convert_bytes_back w 38 9 5 _ cap zs Tryd.underlying38 Tryd.underlying5 Tryd.underlying9 (fun j hj => ?_)
    have := (hh j (by simpa using hj)).1
    rw [Addr.add_lit, this, encB, getElem!_pos _ j (by simpa using hj)]
    simp
theorem info5 : (Tryd.prog.info? 5).map (fun i => (i.zero, i.size, i.bytes)) = some (some (.int .u8 0), 1, 1) := by kernel_rfl
theorem mixedO : Tryd.prog.follows .mixedOrders = true := by kernel_rfl
end Go.Proofs.YtgaaiiacdeejfaaDoor
