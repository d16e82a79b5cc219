/- Plain documents of different trees are different. -/
import Derived.Test.YtallgamfjbkdgaaGreatDoorJ8
namespace Go.Proofs.YtallgamfjbkdgaaGreatDoor
open Go.RowKit
open Go.Lib (decDigits nDigits)

theorem bytes_eq {a b : ByteArray} (h : a.toList = b.toList) : a = b := str_inj (by rw [← Lib.toList_data, ← Lib.toList_data]; exact h)
theorem same_hd {h h2 : Hd} (e : sameH h h2 = true) : h = h2 := by
  simp only [sameH, Bool.and_eq_true, beq_iff_eq, decide_eq_true_eq] at e
  obtain ⟨⟨⟨⟨⟨h1, h2'⟩, ⟨h3, h4⟩, h5⟩, h6⟩, h7⟩, h8⟩ := e
  cases h
  cases h2
  simp only at h1 h2' h3 h4 h5 h6 h7 h8
  rw [h1, h2', h3, bytes_eq h4, h5, Int.ofNat.inj h6, h7, bytes_eq h8]
theorem same_self (h : Hd) : sameH h h = true := by simp [sameH]
theorem same_fo : ∀ (f f2 : Fo), sameF f f2 = true → f = f2
  | .nil, .nil, _ => rfl
  | .cons h k r, .cons h2 k2 r2, e => by
    simp only [sameF, Bool.and_eq_true] at e
    rw [same_hd e.1.1, same_fo k k2 e.1.2, same_fo r r2 e.2]
  | .nil, .cons _ _ _, e => by cases e
  | .cons _ _ _, .nil, e => by cases e
theorem same_fself : ∀ (f : Fo), sameF f f = true
  | .nil => rfl
  | .cons h k r => by rw [sameF, same_self, same_fself k, same_fself r]; rfl

/-! Bytes. -/
def sepL (m o : Bool) : UInt8 := if m && !o then 58 else 44
def listL : Fo → Bool → Bool → List UInt8
  | .nil, _, _ => []
  | .cons h k r, m, o => (if h.kind = 7 then 91 :: (listL k false false ++ [93]) else if h.kind = 8 then 123 :: (listL k true false ++ [125]) else (leafB h).data.toList) ++ ((if r.isNil then [] else [sepL m o]) ++ listL r m (!o))
def nodeL (h : Hd) (k : Fo) : List UInt8 := if h.kind = 7 then 91 :: (listL k false false ++ [93]) else if h.kind = 8 then 123 :: (listL k true false ++ [125]) else (leafB h).data.toList
theorem listL_cons (h : Hd) (k r : Fo) (m o : Bool) : listL (.cons h k r) m o = nodeL h k ++ ((if r.isNil then [] else [sepL m o]) ++ listL r m (!o)) := rfl
theorem nl_plain (n : Nat) : nlB layP n = ⟨#[]⟩ := by
  have h : (nlB layP n).size = 0 := by rw [nlB_size]; show 0 + n * 0 = 0; omega
  exact str_inj (List.eq_nil_of_length_eq_zero (by rw [Array.length_toList]; exact h))
theorem docs_list : ∀ (f : Fo) (i : Nat) (m o : Bool), (docs layP f i m o).data.toList = listL f m o
  | .nil, _, _, _ => rfl
  | .cons h k r, i, m, o => by
    have h1 := docs_list r i m (!o)
    have h2 : (nodeB layP i h k).data.toList = nodeL h k := by
      have hi : ∀ m' : Bool, (innB layP i k.isNil (docs layP k (i + 1) m' false)).data.toList = listL k m' false := fun m' => by
        rw [innB, nl_plain, nl_plain, e_app, app_e, isNil_len]
        split
        · rename_i hz
          cases k with
          | nil => rfl
          | cons a b c => rw [Fo.len] at hz; simp at hz
        · exact docs_list k (i + 1) m' false
      rw [nodeB, wrapB, nodeL]
      by_cases h7 : h.kind = 7
      · rw [if_pos h7, if_pos h7, app_data, app_data, h7, hi]
        rfl
      · rw [if_neg h7, if_neg h7]
        by_cases h8 : h.kind = 8
        · rw [if_pos h8, if_pos h8, app_data, app_data, h8, hi]
          rfl
        · rw [if_neg h8, if_neg h8]
    rw [docs_cons, app_data, app_data, h1, h2, listL_cons]
    congr 2
    split
    · rfl
    · rw [sepB, sepL]
      split
      · rfl
      · rw [nl_plain, app_e]
theorem node_list (i : Nat) (h : Hd) (k : Fo) : (nodeB layP i h k).data.toList = nodeL h k := by
  have := docs_list (.cons h k .nil) i false false
  rw [docs_cons, listL_cons] at this
  simpa [Fo.isNil, docs, listL, app_e] using this

/-! Quotations. -/
def unl (c : UInt8) : UInt8 := if c = 98 then 8 else if c = 102 then 12 else if c = 110 then 10 else if c = 114 then 13 else if c = 116 then 9 else c
def unh (c : UInt8) : Nat := if c.toNat < 58 then c.toNat - 48 else c.toNat - 87
def dE : List UInt8 → Option (UInt8 × List UInt8)
  | [] => none
  | c :: l => if c = 92 then (match l with | [] => none | d :: l2 => if d = 117 then (match l2 with | _ :: _ :: a :: b :: l3 => some (UInt8.ofNat (unh a * 16 + unh b), l3) | _ => none) else some (unl d, l2)) else some (c, l)
theorem dE_low : ∀ c : Fin 32, UInt8.ofNat (unh (hexd (c.1 / 16)) * 16 + unh (hexd (c.1 % 16))) = UInt8.ofNat c.1 := by decide
theorem dE_esc (c : UInt8) (X : List UInt8) : dE (escL c ++ X) = some (c, X) := by
  unfold escL
  by_cases h1 : c = 34 ∨ c = 92
  · rw [if_pos h1]
    rcases h1 with rfl | rfl <;> rfl
  rw [if_neg h1]
  by_cases h2 : c = 8
  · subst h2; rfl
  rw [if_neg h2]
  by_cases h3 : c = 12
  · subst h3; rfl
  rw [if_neg h3]
  by_cases h4 : c = 10
  · subst h4; rfl
  rw [if_neg h4]
  by_cases h5 : c = 13
  · subst h5; rfl
  rw [if_neg h5]
  by_cases h6 : c = 9
  · subst h6; rfl
  rw [if_neg h6]
  by_cases h7 : c.toNat < 32
  · rw [if_pos h7]
    have h8 := dE_low ⟨c.toNat, h7⟩
    show some (UInt8.ofNat (unh (hexd (c.toNat / 16)) * 16 + unh (hexd (c.toNat % 16))), X) = _
    rw [h8, UInt8.ofNat_toNat]
  · rw [if_neg h7]
    show (if c = 92 then _ else some (c, X)) = _
    rw [if_neg (fun e => h1 (.inr e))]
theorem escL_head (c : UInt8) : ∃ d r, escL c = d :: r ∧ d ≠ 34 := by
  have h1 := dE_esc c []
  rw [List.append_nil] at h1
  cases h : escL c with
  | nil => rw [h] at h1; cases h1
  | cons d r =>
    refine ⟨d, r, rfl, fun e => ?_⟩
    subst e
    unfold escL at h
    split at h
    · cases h
    · repeat' split at h
      all_goals first
        | (cases h; done)
        | (cases h; simp_all)
theorem esc_inj : ∀ (s s2 x y : List UInt8), escAll s ++ 34 :: x = escAll s2 ++ 34 :: y → s = s2 ∧ x = y
  | [], [], x, y, e => by
    simp only [escAll, List.flatMap_nil, List.nil_append, List.cons.injEq, true_and] at e
    exact ⟨rfl, e⟩
  | [], c :: s2, x, y, e => by
    obtain ⟨d, r, h1, h2⟩ := escL_head c
    simp only [escAll, List.flatMap_nil, List.nil_append, List.flatMap_cons, h1, List.cons_append, List.cons.injEq] at e
    exact absurd e.1.symm h2
  | c :: s, [], x, y, e => by
    obtain ⟨d, r, h1, h2⟩ := escL_head c
    simp only [escAll, List.flatMap_nil, List.nil_append, List.flatMap_cons, h1, List.cons_append, List.cons.injEq] at e
    exact absurd e.1 h2
  | c :: s, c2 :: s2, x, y, e => by
    simp only [escAll, List.flatMap_cons, List.append_assoc] at e
    have h1 := dE_esc c (List.flatMap escL s ++ 34 :: x)
    rw [e, dE_esc] at h1
    simp only [Option.some.injEq, Prod.mk.injEq] at h1
    obtain ⟨h2, h3⟩ := esc_inj s s2 x y h1.2.symm
    exact ⟨by rw [h1.1, h2], h3⟩
end Go.Proofs.YtallgamfjbkdgaaGreatDoor
