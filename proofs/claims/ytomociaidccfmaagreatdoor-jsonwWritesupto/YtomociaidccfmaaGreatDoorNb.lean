/- Plain documents of different trees are different. Plain documents: each is one tree's. The laws' own: shown. -/
import Derived.Test.YtomociaidccfmaaGreatDoorJ8

namespace Go.Proofs.YtomociaidccfmaaGreatDoor
open Go.RowKit
open Go.Lib (decDigits nDigits)

theorem bytes_eq {a b : ByteArray} (h : a.toList = b.toList) : a = b := str_inj (by rw [← Lib.toList_data, ← Lib.toList_data]; exact h)
theorem same_hd {h h2 : Hd} (e : sameH h h2 = true) : h = h2 := by
  simp only [sameH, Bool.and_eq_true, beq_iff_eq, decide_eq_true_eq] at e
  obtain ⟨⟨⟨⟨⟨h1, h2'⟩, ⟨h3, h4⟩, h5⟩, h6⟩, h7⟩, h8⟩ := e
  cases h
  cases h2
  simp only at h1 h2' h3 h4 h5 h6 h7 h8
  rw [h1, h2', h3, bytes_eq h4, h5, Int.ofNat.inj h6, h7, bytes_eq h8]
theorem same_self (h : Hd) : sameH h h = true := by simp [sameH]
theorem same_fo : ∀ (f f2 : Fo), sameF f f2 = true → f = f2
  | .nil, .nil, _ => rfl
  | .cons h k r, .cons h2 k2 r2, e => by
    simp only [sameF, Bool.and_eq_true] at e
    rw [same_hd e.1.1, same_fo k k2 e.1.2, same_fo r r2 e.2]
  | .nil, .cons _ _ _, e => by cases e
  | .cons _ _ _, .nil, e => by cases e
theorem same_fself : ∀ (f : Fo), sameF f f = true
  | .nil => rfl
  | .cons h k r => by rw [sameF, same_self, same_fself k, same_fself r]; rfl

/-! Bytes. -/
def sepL (m o : Bool) : UInt8 := if m && !o then 58 else 44
def listL : Fo → Bool → Bool → List UInt8
  | .nil, _, _ => []
  | .cons h k r, m, o => (if h.kind = 7 then 91 :: (listL k false false ++ [93]) else if h.kind = 8 then 123 :: (listL k true false ++ [125]) else (leafB h).data.toList) ++ ((if r.isNil then [] else [sepL m o]) ++ listL r m (!o))
def nodeL (h : Hd) (k : Fo) : List UInt8 := if h.kind = 7 then 91 :: (listL k false false ++ [93]) else if h.kind = 8 then 123 :: (listL k true false ++ [125]) else (leafB h).data.toList
theorem listL_cons (h : Hd) (k r : Fo) (m o : Bool) : listL (.cons h k r) m o = nodeL h k ++ ((if r.isNil then [] else [sepL m o]) ++ listL r m (!o)) := rfl
theorem nl_plain (n : Nat) : nlB layP n = ⟨#[]⟩ := by
  have h : (nlB layP n).size = 0 := by rw [nlB_size]; show 0 + n * 0 = 0; omega
  exact str_inj (List.eq_nil_of_length_eq_zero (by rw [Array.length_toList]; exact h))
theorem docs_list : ∀ (f : Fo) (i : Nat) (m o : Bool), (docs layP f i m o).data.toList = listL f m o
  | .nil, _, _, _ => rfl
  | .cons h k r, i, m, o => by
    have h1 := docs_list r i m (!o)
    have h2 : (nodeB layP i h k).data.toList = nodeL h k := by
      have hi : ∀ m' : Bool, (innB layP i k.isNil (docs layP k (i + 1) m' false)).data.toList = listL k m' false := fun m' => by
        rw [innB, nl_plain, nl_plain, e_app, app_e, isNil_len]
        split
        · rename_i hz
          cases k with
          | nil => rfl
          | cons a b c => rw [Fo.len] at hz; simp at hz
        · exact docs_list k (i + 1) m' false
      rw [nodeB, wrapB, nodeL]
      by_cases h7 : h.kind = 7
      · rw [if_pos h7, if_pos h7, app_data, app_data, h7, hi]
        rfl
      · rw [if_neg h7, if_neg h7]
        by_cases h8 : h.kind = 8
        · rw [if_pos h8, if_pos h8, app_data, app_data, h8, hi]
          rfl
        · rw [if_neg h8, if_neg h8]
    rw [docs_cons, app_data, app_data, h1, h2, listL_cons]
    congr 2
    split
    · rfl
    · rw [sepB, sepL]
      split
      · rfl
      · rw [nl_plain, app_e]
theorem node_list (i : Nat) (h : Hd) (k : Fo) : (nodeB layP i h k).data.toList = nodeL h k := by
  have := docs_list (.cons h k .nil) i false false
  rw [docs_cons, listL_cons] at this
  simpa [Fo.isNil, docs, listL, app_e] using this

/-! Quotations. -/
def unl (c : UInt8) : UInt8 := if c = 98 then 8 else if c = 102 then 12 else if c = 110 then 10 else if c = 114 then 13 else if c = 116 then 9 else c
def unh (c : UInt8) : Nat := if c.toNat < 58 then c.toNat - 48 else c.toNat - 87
def dE : List UInt8 → Option (UInt8 × List UInt8)
  | [] => none
  | c :: l => if c = 92 then (match l with | [] => none | d :: l2 => if d = 117 then (match l2 with | _ :: _ :: a :: b :: l3 => some (UInt8.ofNat (unh a * 16 + unh b), l3) | _ => none) else some (unl d, l2)) else some (c, l)
theorem dE_low : ∀ c : Fin 32, UInt8.ofNat (unh (hexd (c.1 / 16)) * 16 + unh (hexd (c.1 % 16))) = UInt8.ofNat c.1 := by decide
theorem dE_esc (c : UInt8) (X : List UInt8) : dE (escL c ++ X) = some (c, X) := by
  unfold escL
  by_cases h1 : c = 34 ∨ c = 92
  · rw [if_pos h1]
    rcases h1 with rfl | rfl <;> rfl
  rw [if_neg h1]
  by_cases h2 : c = 8
  · subst h2; rfl
  rw [if_neg h2]
  by_cases h3 : c = 12
  · subst h3; rfl
  rw [if_neg h3]
  by_cases h4 : c = 10
  · subst h4; rfl
  rw [if_neg h4]
  by_cases h5 : c = 13
  · subst h5; rfl
  rw [if_neg h5]
  by_cases h6 : c = 9
  · subst h6; rfl
  rw [if_neg h6]
  by_cases h7 : c.toNat < 32
  · rw [if_pos h7]
    have h8 := dE_low ⟨c.toNat, h7⟩
    show some (UInt8.ofNat (unh (hexd (c.toNat / 16)) * 16 + unh (hexd (c.toNat % 16))), X) = _
    rw [h8, UInt8.ofNat_toNat]
  · rw [if_neg h7]
    show (if c = 92 then _ else some (c, X)) = _
    rw [if_neg (fun e => h1 (.inr e))]
theorem escL_head (c : UInt8) : ∃ d r, escL c = d :: r ∧ d ≠ 34 := by
  have h1 := dE_esc c []
  rw [List.append_nil] at h1
  cases h : escL c with
  | nil => rw [h] at h1; cases h1
  | cons d r =>
    refine ⟨d, r, rfl, fun e => ?_⟩
    subst e
    unfold escL at h
    split at h
    · cases h
    · repeat' split at h
      all_goals first
        | (cases h; done)
        | (cases h; simp_all)
theorem esc_inj : ∀ (s s2 x y : List UInt8), escAll s ++ 34 :: x = escAll s2 ++ 34 :: y → s = s2 ∧ x = y
  | [], [], x, y, e => by
    simp only [escAll, List.flatMap_nil, List.nil_append, List.cons.injEq, true_and] at e
    exact ⟨rfl, e⟩
  | [], c :: s2, x, y, e => by
    obtain ⟨d, r, h1, h2⟩ := escL_head c
    simp only [escAll, List.flatMap_nil, List.nil_append, List.flatMap_cons, h1, List.cons_append, List.cons.injEq] at e
    exact absurd e.1.symm h2
  | c :: s, [], x, y, e => by
    obtain ⟨d, r, h1, h2⟩ := escL_head c
    simp only [escAll, List.flatMap_nil, List.nil_append, List.flatMap_cons, h1, List.cons_append, List.cons.injEq] at e
    exact absurd e.1 h2
  | c :: s, c2 :: s2, x, y, e => by
    simp only [escAll, List.flatMap_cons, List.append_assoc] at e
    have h1 := dE_esc c (List.flatMap escL s ++ 34 :: x)
    rw [e, dE_esc] at h1
    simp only [Option.some.injEq, Prod.mk.injEq] at h1
    obtain ⟨h2, h3⟩ := esc_inj s s2 x y h1.2.symm
    exact ⟨by rw [h1.1, h2], h3⟩
end Go.Proofs.YtomociaidccfmaaGreatDoor

namespace Go.Proofs.YtomociaidccfmaaGreatDoor
open Go.RowKit
open Go.Lib (decDigits nDigits)

theorem Stop.brace (t : List UInt8) : Stop (125 :: t) := ⟨(show isD 125 = false by decide), (show isE 125 = false by decide), by simp⟩
theorem Stop.colon (t : List UInt8) : Stop (58 :: t) := ⟨(show isD 58 = false by decide), (show isE 58 = false by decide), by simp⟩
/-- A node that fits and is right. -/
def Gq : Hd → Fo → Prop := fun h k => Gj h k ∧ okN h k = true
def emH (kd : Int) (b n : Bool) (d : ByteArray) (e : Int) (s : ByteArray) : Hd := ⟨kd, b, n, d, e, 0, 0, s⟩
theorem fo_nil {k : Fo} (h : (k.len : Int) = 0) : k = .nil := by
  cases k with
  | nil => rfl
  | cons a b c => rw [Fo.len] at h; omega
section
variable {h : Hd} {k : Fo}
theorem ok_1 (e : h.kind = 1) (ho : okN h k = true) : h = emH 1 false false ⟨#[]⟩ 0 ⟨#[]⟩ ∧ k = .nil := by
  rw [okN, if_pos e, o_isNull, j_isNull, Bool.and_eq_true, beq_iff_eq] at ho
  exact ⟨(same_hd ho.1).trans (by rw [e]; rfl), fo_nil ho.2⟩
theorem ok_2 (e : h.kind = 2) (ho : okN h k = true) : h = emH 2 h.b false ⟨#[]⟩ 0 ⟨#[]⟩ ∧ k = .nil := by
  rw [okN, if_neg (by omega), if_pos e, o_isBool, j_isBool, Bool.and_eq_true, beq_iff_eq] at ho
  exact ⟨(same_hd ho.1).trans (by rw [e]; rfl), fo_nil ho.2⟩
theorem ok_3 (e : h.kind = 3) (ho : okN h k = true) : (h = emH 3 false h.neg h.dig h.exp ⟨#[]⟩ ∧ k = .nil) ∧ rightD h.neg h.dig.data.toList h.exp = true := by
  rw [okN, if_neg (by omega), if_neg (by omega), if_pos e, o_isNum, j_isNum, Bool.and_eq_true, Bool.and_eq_true, beq_iff_eq] at ho
  exact ⟨⟨(same_hd ho.1.1).trans (by rw [e]; rfl), fo_nil ho.1.2⟩, ho.2⟩
theorem ok_5 (e : h.kind = 5) (ho : okN h k = true) : h = emH 5 false false ⟨#[]⟩ 0 h.s ∧ k = .nil := by
  rw [okN, if_neg (by omega), if_neg (by omega), if_neg (by omega), if_neg (by omega), if_pos e, o_isText, o_isBytes, j_isBytes, Bool.and_eq_true, Bool.and_eq_true, Bool.and_eq_true, beq_iff_eq] at ho
  exact ⟨(same_hd ho.1.1.1).trans (by rw [e]; rfl), fo_nil ho.1.1.2⟩
theorem ok_7 (e : h.kind = 7) (ho : okN h k = true) : h = emH 7 false false ⟨#[]⟩ 0 ⟨#[]⟩ := by
  rw [okN, if_neg (by omega), if_neg (by omega), if_neg (by omega), if_neg (by omega), if_neg (by omega), if_neg (by omega), if_pos e, o_isArray, j_isArray, Bool.and_eq_true] at ho
  exact (same_hd ho.1).trans (by rw [e]; rfl)
theorem ok_8 (e : h.kind = 8) (ho : okN h k = true) : h = emH 8 false false ⟨#[]⟩ 0 ⟨#[]⟩ := by
  rw [okN, if_neg (by omega), if_neg (by omega), if_neg (by omega), if_neg (by omega), if_neg (by omega), if_neg (by omega), if_neg (by omega), if_pos e, o_isMap, o_isArray, j_isArray, Bool.and_eq_true, Bool.and_eq_true, Bool.and_eq_true] at ho
  exact (same_hd ho.1.1.1).trans (by rw [e]; rfl)
theorem parse_head {c : UInt8} {r : List UInt8} {d : (Bool × Nat × Int) × List UInt8} (h : parseR (c :: r) = some d) : c = 45 ∨ isD c = true := by
  by_cases h1 : c = 45
  · exact .inl h1
  · cases h2 : isD c with
    | true => exact .inr rfl
    | false =>
      have h3 : offL (c :: r) = c :: r := by
        rw [offL, sgnL, if_neg]
        simp only [List.head?_cons, Option.some.injEq, decide_eq_true_eq]
        exact h1
      rw [parseR, h3, if_pos (ndig_none (show headIs isD (c :: r) = false from h2))] at h
      cases h
/-- The kind that a document's first byte tells. -/
def kc (c : UInt8) : Int := if c = 110 then 1 else if c = 116 ∨ c = 102 then 2 else if c = 34 then 5 else if c = 91 then 7 else if c = 123 then 8 else 3
theorem num_head (c : UInt8) (h : c = 45 ∨ isD c = true) : kc c = 3 ∧ c ≠ 93 ∧ c ≠ 125 := by
  have : ∀ c : Fin 256, (UInt8.ofNat c.1 = 45 ∨ isD (UInt8.ofNat c.1) = true) → kc (UInt8.ofNat c.1) = 3 ∧ UInt8.ofNat c.1 ≠ 93 ∧ UInt8.ofNat c.1 ≠ 125 := by decide +kernel
  have h2 := this ⟨c.toNat, UInt8.toNat_lt c⟩
  simp only [UInt8.ofNat_toNat] at h2
  exact h2 h
theorem leaf_num (e : h.kind = 3) : (leafB h).data.toList = sgL h.neg (fmtL h.dig.data.toList h.exp) := by
  rw [leafB, if_neg (by omega), if_neg (by omega), if_pos e, sgnB_data, fmtB_data]
theorem node_2 (e : h.kind = 2) : nodeL h k = (truthB h.b).data.toList := by rw [nodeL, if_neg (by omega), if_neg (by omega), leafB, if_neg (by omega), if_pos e]
theorem node_5 (e : h.kind = 5) : nodeL h k = (quoteB h.s).data.toList := by rw [nodeL, if_neg (by omega), if_neg (by omega), leafB, if_neg (by omega), if_neg (by omega), if_neg (by omega)]
theorem node_8 (e : h.kind = 8) : nodeL h k = 123 :: (listL k true false ++ [125]) := by rw [nodeL, if_neg (by omega), if_pos e]
theorem node_3 (e : h.kind = 3) : nodeL h k = sgL h.neg (fmtL h.dig.data.toList h.exp) := by rw [nodeL, if_neg (by omega), if_neg (by omega), leaf_num e]
theorem node_head (hq : Gq h k) : ∃ c r, nodeL h k = c :: r ∧ kc c = h.kind ∧ c ≠ 93 ∧ c ≠ 125 := by
  rcases hq.1.1 with e | e | ⟨e, er⟩ | ⟨e, _⟩ | e | e
  · exact ⟨110, [117, 108, 108], by rw [nodeL, if_neg (by omega), if_neg (by omega), leafB, if_pos e]; rfl, by rw [e]; rfl, by decide, by decide⟩
  · cases hb : h.b with
    | true => exact ⟨116, [114, 117, 101], by rw [nodeL, if_neg (by omega), if_neg (by omega), leafB, if_neg (by omega), if_pos e, hb]; rfl, by rw [e]; rfl, by decide, by decide⟩
    | false => exact ⟨102, [97, 108, 115, 101], by rw [nodeL, if_neg (by omega), if_neg (by omega), leafB, if_neg (by omega), if_pos e, hb]; rfl, by rw [e]; rfl, by decide, by decide⟩
  · have h1 := parse_fmt (t := []) er Stop.nil
    rw [List.append_nil] at h1
    cases hs : sgL h.neg (fmtL h.dig.data.toList h.exp) with
    | nil => rw [hs] at h1; exact absurd h1 (by rw [show parseR [] = none from rfl]; simp)
    | cons c r =>
      rw [hs] at h1
      have h2 := num_head c (parse_head h1)
      exact ⟨c, r, by rw [nodeL, if_neg (by omega), if_neg (by omega), leaf_num e, hs], by rw [e]; exact h2.1, h2.2.1, h2.2.2⟩
  · exact ⟨34, escAll h.s.data.toList ++ [34], by rw [nodeL, if_neg (by omega), if_neg (by omega), leafB, if_neg (by omega), if_neg (by omega), if_neg (by omega)]; rfl, by rw [e]; rfl, by decide, by decide⟩
  · exact ⟨91, _, by rw [nodeL, if_pos e], by rw [e]; rfl, by decide, by decide⟩
  · exact ⟨123, _, by rw [nodeL, if_neg (by omega), if_pos e], by rw [e]; rfl, by decide, by decide⟩
end
/-- Lists' documents tell their nodes. -/
def Inj (k : Fo) : Prop := ∀ (f2 : Fo) (m o : Bool) (c : UInt8) (x y : List UInt8), (c = 93 ∨ c = 125) → AllG Gq k → AllG Gq f2 → listL k m o ++ c :: x = listL f2 m o ++ c :: y → k = f2 ∧ x = y
theorem node_inj {h h2 : Hd} {k k2 : Fo} {x y : List UInt8} (IH : Inj k) (hq : Gq h k) (hq2 : Gq h2 k2) (hk : AllG Gq k) (hk2 : AllG Gq k2) (sx : Stop x) (sy : Stop y) (e : nodeL h k ++ x = nodeL h2 k2 ++ y) : (h = h2 ∧ k = k2) ∧ x = y := by
  have hkd : h.kind = h2.kind := by
    obtain ⟨c, r, h1, h3, _⟩ := node_head hq
    obtain ⟨c2, r2, h4, h5, _⟩ := node_head hq2
    rw [h1, h4, List.cons_append, List.cons_append, List.cons.injEq] at e
    rw [← h3, ← h5, e.1]
  rcases hq.1.1 with e1 | e1 | ⟨e1, er⟩ | ⟨e1, _⟩ | e1 | e1
  · have a1 := ok_1 e1 hq.2
    have a2 := ok_1 (hkd ▸ e1) hq2.2
    have hh : h = h2 := a1.1.trans a2.1.symm
    have hkk : k = k2 := a1.2.trans a2.2.symm
    subst hh hkk
    exact ⟨⟨rfl, rfl⟩, List.append_cancel_left e⟩
  · have e2 : h2.kind = 2 := hkd ▸ e1
    have a1 := ok_2 e1 hq.2
    have a2 := ok_2 e2 hq2.2
    have hb : h.b = h2.b := by
      rw [node_2 e1, node_2 e2] at e
      cases hb1 : h.b <;> cases hb2 : h2.b
      · rfl
      · rw [hb1, hb2] at e
        have e3 : (102 : UInt8) :: ([97, 108, 115, 101] ++ x) = 116 :: ([114, 117, 101] ++ y) := e
        exact absurd (List.cons.inj e3).1 (by decide)
      · rw [hb1, hb2] at e
        have e3 : (116 : UInt8) :: ([114, 117, 101] ++ x) = 102 :: ([97, 108, 115, 101] ++ y) := e
        exact absurd (List.cons.inj e3).1 (by decide)
      · rfl
    have hh : h = h2 := by rw [a1.1, a2.1, hb]
    have hkk : k = k2 := a1.2.trans a2.2.symm
    subst hh hkk
    exact ⟨⟨rfl, rfl⟩, List.append_cancel_left e⟩
  · have e2 : h2.kind = 3 := hkd ▸ e1
    have a1 := ok_3 e1 hq.2
    have a2 := ok_3 e2 hq2.2
    rw [node_3 e1, node_3 e2] at e
    have p1 := parse_fmt a1.2 sx
    have p2 := parse_fmt a2.2 sy
    rw [e, p2] at p1
    simp only [Option.some.injEq, Prod.mk.injEq] at p1
    obtain ⟨⟨q1, q2, q3⟩, q4⟩ := p1
    have hd : h.dig = h2.dig := by
      apply str_inj
      by_cases z1 : h.dig.data.toList = [48]
      · by_cases z2 : h2.dig.data.toList = [48]
        · rw [z1, z2]
        · have := (right_num a2.2 z2).2.1
          rw [q2, z1] at this
          exact absurd this (by decide)
      · by_cases z2 : h2.dig.data.toList = [48]
        · have := (right_num a1.2 z1).2.1
          rw [← q2, z2] at this
          exact absurd this (by decide)
        · rw [← (right_num a1.2 z1).1, ← (right_num a2.2 z2).1, q2]
    have hh : h = h2 := by rw [a1.1.1, a2.1.1, ← q1, hd, ← q3]
    exact ⟨⟨hh, a1.1.2.trans a2.1.2.symm⟩, q4.symm⟩
  · have e2 : h2.kind = 5 := hkd ▸ e1
    have a1 := ok_5 e1 hq.2
    have a2 := ok_5 e2 hq2.2
    rw [node_5 e1, node_5 e2] at e
    have e3 : escAll h.s.data.toList ++ 34 :: x = escAll h2.s.data.toList ++ 34 :: y := by
      have e4 : 34 :: (escAll h.s.data.toList ++ [34]) ++ x = 34 :: (escAll h2.s.data.toList ++ [34]) ++ y := e
      simpa using e4
    obtain ⟨q1, q2⟩ := esc_inj _ _ _ _ e3
    have hh : h = h2 := by rw [a1.1, a2.1, str_inj q1]
    exact ⟨⟨hh, a1.2.trans a2.2.symm⟩, q2⟩
  · have e2 : h2.kind = 7 := hkd ▸ e1
    rw [nodeL, nodeL, if_pos e1, if_pos e2] at e
    have e3 : listL k false false ++ 93 :: x = listL k2 false false ++ 93 :: y := by simpa using e
    obtain ⟨q1, q2⟩ := IH k2 false false 93 x y (.inl rfl) hk hk2 e3
    exact ⟨⟨(ok_7 e1 hq.2).trans (ok_7 e2 hq2.2).symm, q1⟩, q2⟩
  · have e2 : h2.kind = 8 := hkd ▸ e1
    rw [node_8 e1, node_8 e2] at e
    have e3 : listL k true false ++ 125 :: x = listL k2 true false ++ 125 :: y := by simpa using e
    obtain ⟨q1, q2⟩ := IH k2 true false 125 x y (.inr rfl) hk hk2 e3
    exact ⟨⟨(ok_8 e1 hq.2).trans (ok_8 e2 hq2.2).symm, q1⟩, q2⟩
theorem sepL_is (m o : Bool) : sepL m o = 58 ∨ sepL m o = 44 := by
  unfold sepL
  split
  · exact .inl rfl
  · exact .inr rfl
theorem sep_stop (m o : Bool) (t : List UInt8) : Stop (sepL m o :: t) := by
  rcases sepL_is m o with e | e <;> rw [e]
  · exact Stop.colon t
  · exact Stop.comma t
theorem list_inj : ∀ (f : Fo), Inj f
  | .nil, .nil, m, o, c, x, y, _, _, _, e => by
    simp only [listL, List.nil_append, List.cons.injEq, true_and] at e
    exact ⟨rfl, e⟩
  | .nil, .cons h2 k2 r2, m, o, c, x, y, hc, _, g2, e => by
    obtain ⟨d, r, h1, _, h3, h4⟩ := node_head g2.1
    rw [listL_cons, h1] at e
    simp only [listL, List.nil_append, List.cons_append, List.cons.injEq] at e
    rcases hc with rfl | rfl
    · exact absurd e.1.symm h3
    · exact absurd e.1.symm h4
  | .cons h k r, .nil, m, o, c, x, y, hc, g, _, e => by
    obtain ⟨d, r', h1, _, h3, h4⟩ := node_head g.1
    rw [listL_cons, h1] at e
    simp only [listL, List.nil_append, List.cons_append, List.cons.injEq] at e
    rcases hc with rfl | rfl
    · exact absurd e.1 h3
    · exact absurd e.1 h4
  | .cons h k r, .cons h2 k2 r2, m, o, c, x, y, hc, g, g2, e => by
    have I1 := list_inj k
    have I2 := list_inj r
    have sc : ∀ t, Stop (c :: t) := fun t => by
      rcases hc with rfl | rfl
      · exact Stop.brack t
      · exact Stop.brace t
    have stp : ∀ (r : Fo) (z : List UInt8), Stop ((if r.isNil then [] else [sepL m o]) ++ (listL r m (!o) ++ c :: z)) := by
      intro r z
      cases r with
      | nil => exact sc z
      | cons a b d => exact sep_stop m o _
    rw [listL_cons, listL_cons] at e
    simp only [List.append_assoc] at e
    obtain ⟨⟨rfl, rfl⟩, q⟩ := node_inj I1 g.1 g2.1 g.2.1 g2.2.1 (stp r x) (stp r2 y) e
    have hcs : c ≠ sepL m o := by
      rcases hc with rfl | rfl <;> rcases sepL_is m o with e2 | e2 <;> rw [e2] <;> decide
    cases r with
    | nil =>
      cases r2 with
      | nil =>
        have q3 : c :: x = c :: y := q
        exact ⟨rfl, (List.cons.inj q3).2⟩
      | cons a b d =>
        have q3 : c :: x = sepL m o :: (listL (.cons a b d) m (!o) ++ c :: y) := q
        exact absurd (List.cons.inj q3).1 hcs
    | cons a b d =>
      cases r2 with
      | nil =>
        have q3 : sepL m o :: (listL (.cons a b d) m (!o) ++ c :: x) = c :: y := q
        exact absurd (List.cons.inj q3).1.symm hcs
      | cons a2 b2 d2 =>
        have q3 : sepL m o :: (listL (.cons a b d) m (!o) ++ c :: x) = sepL m o :: (listL (.cons a2 b2 d2) m (!o) ++ c :: y) := q
        obtain ⟨q4, q5⟩ := I2 (.cons a2 b2 d2) m (!o) c x y hc g.2.2 g2.2.2 (List.cons.inj q3).2
        exact ⟨by rw [q4], q5⟩
theorem gq_all : ∀ (f : Fo), okAll okN f = true → fitAll (frmOf 1) f = true → f.cnt ≤ 300 → AllG Gq f
  | .nil, _, _, _ => trivial
  | .cons h k r, h1, h2, h3 => by
    rw [okAll] at h1
    rw [fitAll] at h2
    simp only [Bool.and_eq_true, decide_eq_true_eq] at h1 h2
    rw [Fo.cnt] at h3
    have := len_cnt k
    exact ⟨⟨gj_of h k h1.1.1.2 h2.1.1 h1.1.1.1 (by omega), h1.1.1.2⟩, gq_all k h1.1.2 h2.1.2 (by omega), gq_all r h1.2 h2.2 (by omega)⟩
theorem chk_gq {h : Hd} {k : Fo} (e : chk 1 h k = 0) : AllG Gq (.cons h k .nil) := by
  unfold chk at e
  split at e
  · rename_i h1
    split at e
    · rename_i h2
      rw [rgt, rightR, Bool.and_eq_true, decide_eq_true_eq] at h1
      exact gq_all _ h1.2 h2 (by simp only [Fo.cnt]; omega)
    · cases e
  · cases e
/-- Two trees that fit have the same plain document just if they are the same. -/
theorem docs_apart {h h2 : Hd} {k k2 : Fo} (e : chk 1 h k = 0) (e2 : chk 1 h2 k2 = 0) : decide ((nodeB layP 0 h k).toList = (nodeB layP 0 h2 k2).toList) = (sameH h h2 && sameF k k2) := by
  have g := chk_gq e
  have g2 := chk_gq e2
  rw [Bool.eq_iff_iff, decide_eq_true_eq, Bool.and_eq_true]
  constructor
  · intro hd
    have hd2 : nodeL h k ++ [] = nodeL h2 k2 ++ [] := by rw [← node_list 0 h k, ← node_list 0 h2 k2, bytes_eq hd]
    obtain ⟨⟨rfl, rfl⟩, _⟩ := node_inj (list_inj k) g.1 g2.1 g.2.1 g2.2.1 Stop.nil Stop.nil hd2
    exact ⟨same_self h, same_fself k⟩
  · rintro ⟨h1, h3⟩
    rw [same_hd h1, same_fo _ _ h3]
end Go.Proofs.YtomociaidccfmaaGreatDoor

namespace Go.Proofs.YtomociaidccfmaaGreatDoor
open Go.RowKit

def sA : Hd := ⟨5, false, false, ⟨#[]⟩, 0, 0, 0, ⟨#[97]⟩⟩
def sB : Hd := ⟨5, false, false, ⟨#[]⟩, 0, 0, 0, ⟨#[98]⟩⟩
def sN : Hd := ⟨3, false, false, ⟨#[49, 53]⟩, -1, 0, 0, ⟨#[]⟩⟩
def sL : Hd := ⟨7, false, false, ⟨#[]⟩, 0, 0, 0, ⟨#[]⟩⟩
def sM : Hd := ⟨8, false, false, ⟨#[]⟩, 0, 0, 0, ⟨#[]⟩⟩
def sY : Hd := ⟨6, false, false, ⟨#[]⟩, 0, 0, 0, ⟨#[]⟩⟩
def sK : Fo := .cons sA .nil (.cons sN .nil (.cons sB .nil (.cons sL .nil .nil)))
theorem chk_sM : chk 1 sM sK = 0 := by decide +kernel
theorem chk_sY : chk 1 sY .nil = 61 := by decide +kernel
theorem doc_sM : docB layP sM sK = ⟨#[123, 34, 97, 34, 58, 49, 46, 53, 44, 34, 98, 34, 58, 91, 93, 125]⟩ := by
  rw [docB, if_pos chk_sM]
  apply str_inj
  rw [node_list]
  decide +kernel
theorem doc_sY : docB layP sY .nil = ⟨#[]⟩ := by rw [docB, if_neg (by rw [chk_sY]; decide)]
theorem sK_gl : AllG Gl (.cons sM sK .nil) := by
  simp [AllG, Gl, sK, Fo.len]
theorem row4_kd {W0 : World} {B1 : Nat} (h1 : Bx W0 B1 (sA.cells (.slice none 0 0) ++ (sN.cells (.slice none 0 0) ++ (sB.cells (.slice none 0 0) ++ sL.cells (.slice none 0 0)))) 27) : Kd An W0 (.slice (some ⟨B1, 0, none⟩) 4 4) sK := by
  have c : ∀ (j i : Nat) (u : Value), j ≤ 3 → (([sA, sN, sB, sL][j]?.getD sA).cells (.slice none 0 0))[i]? = some u → W0.cell? ⟨B1, 0 + j * 9 + i, none⟩ = some u := by
    intro j i u hj hi
    have hi9 : i < 9 := (Array.getElem?_eq_some_iff.1 hi).1
    refine Bx.c h1 _ ?_
    have s9 : ∀ h : Hd, (h.cells (.slice none 0 0)).size = 9 := fun _ => rfl
    match j, hj, hi with
    | 0, _, hi => rw [Array.getElem?_append_left (by rw [s9]; omega)]; rw [show 0 + 0 * 9 + i = i by omega]; exact hi
    | 1, _, hi => rw [Array.getElem?_append_right (by rw [s9]; omega), s9, Array.getElem?_append_left (by rw [s9]; omega), show 0 + 1 * 9 + i - 9 = i by omega]; exact hi
    | 2, _, hi => rw [Array.getElem?_append_right (by rw [s9]; omega), s9, Array.getElem?_append_right (by rw [s9]; omega), s9, Array.getElem?_append_left (by rw [s9]; omega), show 0 + 2 * 9 + i - 9 - 9 = i by omega]; exact hi
    | 3, _, hi => rw [Array.getElem?_append_right (by rw [s9]; omega), s9, Array.getElem?_append_right (by rw [s9]; omega), s9, Array.getElem?_append_right (by rw [s9]; omega), s9, show 0 + 3 * 9 + i - 9 - 9 - 9 = i by omega]; exact hi
  refine .inr ⟨B1, 0, 4, rfl, Nat.le_refl _, by decide, h1.lt, trivial, ?_⟩
  refine lies_cons.2 ⟨⟨.slice none 0 0, fun i u hi => c 0 i u (by omega) hi, .inl ⟨_, _, rfl, rfl⟩⟩, by decide, ?_⟩
  refine lies_cons.2 ⟨⟨.slice none 0 0, fun i u hi => c 1 i u (by omega) hi, .inl ⟨_, _, rfl, rfl⟩⟩, by decide, ?_⟩
  refine lies_cons.2 ⟨⟨.slice none 0 0, fun i u hi => c 2 i u (by omega) hi, .inl ⟨_, _, rfl, rfl⟩⟩, by decide, ?_⟩
  exact lies_cons.2 ⟨⟨.slice none 0 0, fun i u hi => c 3 i u (by omega) hi, .inl ⟨_, _, rfl, rfl⟩⟩, by decide, trivial⟩
set_option maxRecDepth 100000 in
set_option maxHeartbeats 1000000 in
theorem jshown_calls (w : World) (hT : Tj w) : Calls Tryz.prog 4 #[] w (BolP true w) := by
  have HT := Lib.hid hT
  clear hT
  go_enter Tryz.func4, Tryz.ntmps4
  go_wp2_with fail
  obtain ⟨W0, hW0⟩ : ∃ W0, W0 = (w.alloc (.cells #[.int .i64 5, .bool false, .bool false, .string ⟨#[]⟩, .int .i64 0, .int .u64 0, .int .i64 0, .string ⟨#[97]⟩, .slice none 0 0, .int .i64 3, .bool false, .bool false, .string ⟨#[49, 53]⟩, .int .i64 (-1), .int .u64 0, .int .i64 0, .string ⟨#[]⟩, .slice none 0 0, .int .i64 5, .bool false, .bool false, .string ⟨#[]⟩, .int .i64 0, .int .u64 0, .int .i64 0, .string ⟨#[98]⟩, .slice none 0 0, .int .i64 7, .bool false, .bool false, .string ⟨#[]⟩, .int .i64 0, .int .u64 0, .int .i64 0, .string ⟨#[]⟩, .slice none 0 0] 27)).alloc (.cells #[.int .i64 8, .bool false, .bool false, .string ⟨#[]⟩, .int .i64 0, .int .u64 0, .int .i64 0, .string ⟨#[]⟩, .slice (some ⟨w.heap.size, 0, none⟩) 4 4] 27) := ⟨_, rfl⟩
  rw [← hW0]
  have HX : Hid (Nx W0 (w.heap.size + 1) sM (.slice (some ⟨w.heap.size, 0, none⟩) 4 4)) := Lib.hid (by rw [hW0]; exact Bx.new1 w _ _ _)
  have HKd : Hid (Kd An W0 (.slice (some ⟨w.heap.size, 0, none⟩) 4 4) sK) := Lib.hid (row4_kd (by rw [hW0]; exact (Bx.new w _ _).alloc _))
  have HB : Hid (Below w.heap.size w W0) := Lib.hid (by rw [hW0]; exact below_a (below_a (Below.refl _ w) _) _)
  have HW1 : Hid (Calls Tryz.prog 6 #[.agg (sM.cells (.slice (some ⟨w.heap.size, 0, none⟩) 4 4))] W0 fun o w' => o = .returned (.tuple #[.string ⟨#[123, 34, 97, 34, 58, 49, 46, 53, 44, 34, 98, 34, 58, 91, 93, 125]⟩, .int .i64 0]) ∧ Below W0.heap.size W0 w') := Lib.hid (by
    have := Write_calls sM sK _ W0 (HT.out.below HB.out) HKd.out (by decide) (by decide) sK_gl
    unfold DocP at this
    rwa [doc_sM, chk_sM] at this)
  have HW2 : Hid (∀ W, Below W0.heap.size W0 W → Calls Tryz.prog 6 #[.agg (sY.cells (.slice none 0 0))] W fun o w' => o = .returned (.tuple #[.string ⟨#[]⟩, .int .i64 61]) ∧ Below W.heap.size W w') := Lib.hid (fun W hW => by
    have := Write_calls sY .nil (.slice none 0 0) W ((HT.out.below HB.out).below hW) (.inl ⟨_, _, rfl, rfl⟩) (by decide) (by decide) (by simp [AllG, Gl, Fo.len])
    unfold DocP at this
    rwa [doc_sY, chk_sY] at this)
  clear hW0 HKd
  refine HW1.out.mono ?_
  rintro o w1 ⟨rfl, hb1⟩
  have HB1 := Lib.hid hb1
  clear hb1
  go_wp2_with fail
  refine (HW2.out _ HB1.out).mono ?_
  rintro o w2 ⟨rfl, hb2⟩
  have HB2 := Lib.hid (below_nx HB1.out hb2)
  clear hb2
  go_wp2
  go_ret
  exact ⟨rfl, below_nx HB.out HB2.out⟩
end Go.Proofs.YtomociaidccfmaaGreatDoor
