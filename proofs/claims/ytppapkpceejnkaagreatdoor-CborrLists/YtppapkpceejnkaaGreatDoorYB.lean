/- Trees that are cut twice; what is the same. -/
import Derived.Test.YtppapkpceejnkaaGreatDoorMr
import Derived.Test.YtppapkpceejnkaaGreatDoorYS
namespace Go.Proofs.YtppapkpceejnkaaGreatDoor
open Go.RowKit

theorem cutB_twice (s : ByteArray) (m : Nat) : cutB (cutB s m) m = cutB s m := by
  unfold cutB
  apply ByteArray.ext
  simp only [ByteArray.data_extract, ByteArray.size_extract]
  rw [Array.extract_extract]
  congr 1
  omega
def Gc : Hd → Fo → Prop := fun h k => cutH h = h ∧ k.len ≤ 40
theorem cutH_twice (h : Hd) : cutH (cutH h) = cutH h := by
  simp only [cutH, cutB_twice]
theorem cutF_gc : ∀ (f : Fo) (D m : Nat), AllG Gc (cutF f D m)
  | .nil, _, _ => trivial
  | .cons h k r, D, m => by
    rw [cutF]
    split
    · trivial
    · refine allG_cons ⟨cutH_twice h, ?_⟩ ?_ (cutF_gc r D (m - 1))
      · split
        · exact Nat.zero_le _
        · rw [cut_len]; omega
      · split
        · trivial
        · exact cutF_gc k (D - 1) 40
theorem deep_pos {k : Fo} (h : k.deep = 0) : k = .nil := by
  cases k with
  | nil => rfl
  | cons _ _ _ => simp only [Fo.deep] at h; omega
theorem cutF_id : ∀ (f : Fo) (D m : Nat), AllG Gc f → f.len ≤ m → f.deep ≤ D → cutF f D m = f
  | .nil, _, _, _, _, _ => rfl
  | .cons h k r, D, m, ⟨⟨g1, g2⟩, g3, g4⟩, hl, hd => by
    simp only [Fo.deep] at hd
    simp only [Fo.len] at hl
    rw [cutF, if_neg (by omega), g1, cutF_id r D (m - 1) g4 (by omega) (by omega)]
    congr 1
    split
    · rw [deep_pos (k := k) (by omega)]
    · exact cutF_id k (D - 1) 40 g3 g2 (by omega)
theorem few_few (k : Fo) : fewK (fewK k) = fewK k := by
  have h0 : fewK .nil = .nil := by rw [fewK]; split <;> rfl
  by_cases h : 400 < wrap64 (1 + ((cutK 18 k).cnt : Int))
  · rw [show fewK k = .nil by rw [fewK, if_pos h], h0]
  · have e : fewK k = cutK 18 k := by rw [fewK, if_neg h]
    have e2 : cutK 18 (cutK 18 k) = cutK 18 k := by
      have q : cutK 18 k = cutF k 17 40 := rfl
      rw [q]
      have hd := cut_deep k 17 40
      exact cutF_id _ 17 40 (cutF_gc k 17 40) (by rw [cut_len]; omega) (by omega)
    rw [e, fewK, e2, if_neg h]
theorem few_same_h (h : Hd) : sameH h h = true := by simp [sameH]
theorem same_refl : ∀ (f : Fo), sameF f f = true
  | .nil => rfl
  | .cons h k r => by rw [sameF, few_same_h, same_refl k, same_refl r]; rfl
theorem sameH_symm (a b : Hd) : sameH a b = sameH b a := by
  simp only [sameH]
  rw [show (a.kind == b.kind) = (b.kind == a.kind) from Bool.beq_comm .., show (a.b == b.b) = (b.b == a.b) from Bool.beq_comm .., show (a.neg == b.neg) = (b.neg == a.neg) from Bool.beq_comm .., show (a.exp == b.exp) = (b.exp == a.exp) from Bool.beq_comm .., show (a.w == b.w) = (b.w == a.w) from Bool.beq_comm ..,
    decide_eq_decide.2 (show a.dig.toList = b.dig.toList ↔ b.dig.toList = a.dig.toList from eq_comm), decide_eq_decide.2 (show (a.u : Int) = (b.u : Int) ↔ (b.u : Int) = (a.u : Int) from eq_comm), decide_eq_decide.2 (show a.s.toList = b.s.toList ↔ b.s.toList = a.s.toList from eq_comm)]
theorem sameF_symm : ∀ (a b : Fo), sameF a b = sameF b a
  | .nil, .nil => rfl
  | .nil, .cons _ _ _ => rfl
  | .cons _ _ _, .nil => rfl
  | .cons h k r, .cons h2 k2 r2 => by rw [sameF, sameF, sameH_symm h h2, sameF_symm k k2, sameF_symm r r2]
end Go.Proofs.YtppapkpceejnkaaGreatDoor
