/- The document's own way of writing lists is the program's: plain mathematics. -/
import Derived.Test.YtomociaidccfmaaGreatDoorJ8
namespace Go.Proofs.YtomociaidccfmaaGreatDoor
open Go.RowKit

/-- What stands ahead of the node at a place, what behind it. -/
def pcB (L : Lay) (i : Nat) (m : Bool) (j : Nat) : ByteArray := (if 0 < j ∧ (m = false ∨ j % 2 = 0) then ⟨#[44]⟩ else ⟨#[]⟩) ++ (if m = false ∨ j % 2 = 0 then nlB L (i + 1) else ⟨#[]⟩)
def qcB (L : Lay) (m : Bool) (j : Nat) : ByteArray := if m = true ∧ j % 2 = 0 then ⟨#[58]⟩ ++ L.k else ⟨#[]⟩
/-- What is written of the nodes from a place on. -/
def outF (L : Lay) (i : Nat) (m : Bool) : Fo → Nat → ByteArray
  | .nil, _ => ⟨#[]⟩
  | .cons h k r, j => pcB L i m j ++ (nodeB L (i + 1) h k ++ (qcB L m j ++ outF L i m r (j + 1)))
theorem outF_docs (L : Lay) (i : Nat) (m : Bool) : ∀ (f : Fo) (j : Nat), f ≠ .nil → (m = true → (j + f.len) % 2 = 0) → outF L i m f j = pcB L i m j ++ docs L f (i + 1) m (j % 2 == 1)
  | .nil, _, h, _ => absurd rfl h
  | .cons h k r, j, _, hm => by
    rw [outF, docs_cons]
    congr 2
    cases r with
    | nil =>
      have hq : qcB L m j = ⟨#[]⟩ := by
        unfold qcB
        rw [if_neg]
        rintro ⟨h1, h2⟩
        have := hm h1
        simp only [Fo.len] at this
        omega
      rw [hq, outF, e_app]
      simp only [Fo.isNil, if_true, docs]
      rw [e_app]
    | cons h' k' r' =>
      have ih := outF_docs L i m (.cons h' k' r') (j + 1) (by simp) (fun e => by have := hm e; simp only [Fo.len] at this ⊢; omega)
      rw [ih, ← ByteArray.append_assoc]
      simp only [Fo.isNil, Bool.false_eq_true, if_false]
      have hp : ((j + 1) % 2 == 1) = !(j % 2 == 1) := by
        rcases Nat.mod_two_eq_zero_or_one j with h5 | h5
        · rw [h5, show (j + 1) % 2 = 1 by omega]; rfl
        · rw [h5, show (j + 1) % 2 = 0 by omega]; rfl
      rw [hp]
      congr 1
      unfold qcB pcB sepB
      cases m with
      | false =>
        rw [if_neg (by simp), if_pos ⟨by omega, .inl rfl⟩, if_pos (.inl rfl), if_neg (by simp), e_app]
      | true =>
        rcases Nat.mod_two_eq_zero_or_one j with h5 | h5
        · rw [if_pos ⟨rfl, h5⟩, if_neg (by rintro ⟨_, h | h⟩; cases h; omega), if_neg (by rintro (h | h); cases h; omega), if_pos (by rw [h5]; rfl), app_e, app_e]
        · rw [if_neg (by rintro ⟨_, h⟩; omega), if_pos ⟨by omega, .inr (by omega)⟩, if_pos (.inr (by omega)), if_neg (by rw [h5]; simp), e_app]
theorem outF_all (L : Lay) (i : Nat) (m : Bool) (k : Fo) (hk : k ≠ .nil) (hm : m = true → k.len % 2 = 0) : outF L i m k 0 = nlB L (i + 1) ++ docs L k (i + 1) m false := by
  rw [outF_docs L i m k 0 hk (fun e => by have := hm e; omega)]
  congr 1
  unfold pcB
  rw [if_neg (by rintro ⟨h, _⟩; omega), if_pos (.inr rfl), e_app]
theorem outF_drop (L : Lay) (i : Nat) (m : Bool) (f : Fo) (j : Nat) {h : Hd} {k r : Fo} (e : f.drop j = .cons h k r) : outF L i m (f.drop j) j = pcB L i m j ++ (nodeB L (i + 1) h k ++ (qcB L m j ++ outF L i m (f.drop (j + 1)) (j + 1))) := by
  rw [drop_succ j f e, e, outF]
theorem repS_empty (n : Nat) : repS ⟨#[]⟩ n = ⟨#[]⟩ := str_inj (List.eq_nil_of_length_eq_zero (by
  have h := repS_size ⟨#[]⟩ n
  have h2 : (repS ⟨#[]⟩ n).data.toList.length = (repS ⟨#[]⟩ n).size := Array.length_toList
  rw [h2, h]
  show n * 0 = 0
  omega))
theorem nlB_P (n : Nat) : nlB layP n = ⟨#[]⟩ := by
  rw [nlB, layP, repS_empty, e_app]
end Go.Proofs.YtomociaidccfmaaGreatDoor
