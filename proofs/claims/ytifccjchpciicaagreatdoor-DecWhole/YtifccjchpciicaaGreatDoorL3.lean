/- The walks of DecSigns and DecWhole. -/
import Derived.Test.YtifccjchpciicaaGreatDoorL2
namespace Go.Proofs.YtifccjchpciicaaGreatDoor
open Go.RowKit
open Go.Lib (decDigits nDigits)

theorem numL_len {x : Int} (h1 : -9999 ≤ x) (h2 : x ≤ 9999) : (numL x).length ≤ 5 := by
  have hd : nDigits x.natAbs ≤ 4 := nDigits_le (by decide) (by omega)
  rw [numL]
  split
  · rw [List.length_cons, Lib.decDigits_length]; omega
  · rw [Lib.decDigits_length]; omega
theorem fmt_size {n m : Bool} {s : ByteArray} {e : Int} (h : rightD n s.data.toList e = true) : (sgnB m (fmtB s e)).size ≤ 300 := by
  obtain ⟨_, h2, h3, h4⟩ := right_parts h
  have hf : (fmtL s.data.toList e).length ≤ 299 := by
    rw [fmtL]
    split
    · have := numL_len (x := e) (by omega) (by omega)
      rw [List.length_append, List.length_cons]; omega
    · split
      · rw [List.length_append, List.length_replicate]; omega
      · rw [List.length_append, List.length_cons, List.length_take, List.length_drop, padL, List.length_append, List.length_replicate]; omega
  rw [Lib.size_eq, sgnB_data, fmtB_data, sgL]
  split
  · rw [List.length_cons]; omega
  · omega
theorem fS_size (n : Bool) (s : ByteArray) (e : Int) : (fS n s e).size ≤ 300 := by
  rw [fS]
  split
  · rename_i h; exact fmt_size h
  · exact Nat.zero_le _
theorem DecAt.setN {W : World} {B : Nat} {n : Bool} {s : ByteArray} {e : Int} (h : DecAt W B n s e) (m : Bool) : DecAt (W.setCell ⟨B, 0, none⟩ (.bool m)) B m s e := heap_setCell_same W B 0 _ _ (.bool m) h

end Go.Proofs.YtifccjchpciicaaGreatDoor
