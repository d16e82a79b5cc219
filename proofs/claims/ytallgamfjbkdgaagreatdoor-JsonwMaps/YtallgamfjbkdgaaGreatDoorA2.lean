/- Plain documents: each is one tree's. -/
import Derived.Test.YtallgamfjbkdgaaGreatDoorA1
namespace Go.Proofs.YtallgamfjbkdgaaGreatDoor
open Go.RowKit
open Go.Lib (decDigits nDigits)

theorem Stop.brace (t : List UInt8) : Stop (125 :: t) := ⟨(show isD 125 = false by decide), (show isE 125 = false by decide), by simp⟩
theorem Stop.colon (t : List UInt8) : Stop (58 :: t) := ⟨(show isD 58 = false by decide), (show isE 58 = false by decide), by simp⟩
/-- A node that fits and is right. -/
def Gq : Hd → Fo → Prop := fun h k => Gj h k ∧ okN h k = true
def emH (kd : Int) (b n : Bool) (d : ByteArray) (e : Int) (s : ByteArray) : Hd := ⟨kd, b, n, d, e, 0, 0, s⟩
theorem fo_nil {k : Fo} (h : (k.len : Int) = 0) : k = .nil := by
  cases k with
  | nil => rfl
  | cons a b c => rw [Fo.len] at h; omega
section
variable {h : Hd} {k : Fo}
theorem ok_1 (e : h.kind = 1) (ho : okN h k = true) : h = emH 1 false false ⟨#[]⟩ 0 ⟨#[]⟩ ∧ k = .nil := by
  rw [okN, if_pos e, o_isNull, j_isNull, Bool.and_eq_true, beq_iff_eq] at ho
  exact ⟨(same_hd ho.1).trans (by rw [e]; rfl), fo_nil ho.2⟩
theorem ok_2 (e : h.kind = 2) (ho : okN h k = true) : h = emH 2 h.b false ⟨#[]⟩ 0 ⟨#[]⟩ ∧ k = .nil := by
  rw [okN, if_neg (by omega), if_pos e, o_isBool, j_isBool, Bool.and_eq_true, beq_iff_eq] at ho
  exact ⟨(same_hd ho.1).trans (by rw [e]; rfl), fo_nil ho.2⟩
theorem ok_3 (e : h.kind = 3) (ho : okN h k = true) : (h = emH 3 false h.neg h.dig h.exp ⟨#[]⟩ ∧ k = .nil) ∧ rightD h.neg h.dig.data.toList h.exp = true := by
  rw [okN, if_neg (by omega), if_neg (by omega), if_pos e, o_isNum, j_isNum, Bool.and_eq_true, Bool.and_eq_true, beq_iff_eq] at ho
  exact ⟨⟨(same_hd ho.1.1).trans (by rw [e]; rfl), fo_nil ho.1.2⟩, ho.2⟩
theorem ok_5 (e : h.kind = 5) (ho : okN h k = true) : h = emH 5 false false ⟨#[]⟩ 0 h.s ∧ k = .nil := by
  rw [okN, if_neg (by omega), if_neg (by omega), if_neg (by omega), if_neg (by omega), if_pos e, o_isText, o_isBytes, j_isBytes, Bool.and_eq_true, Bool.and_eq_true, Bool.and_eq_true, beq_iff_eq] at ho
  exact ⟨(same_hd ho.1.1.1).trans (by rw [e]; rfl), fo_nil ho.1.1.2⟩
theorem ok_7 (e : h.kind = 7) (ho : okN h k = true) : h = emH 7 false false ⟨#[]⟩ 0 ⟨#[]⟩ := by
  rw [okN, if_neg (by omega), if_neg (by omega), if_neg (by omega), if_neg (by omega), if_neg (by omega), if_neg (by omega), if_pos e, o_isArray, j_isArray, Bool.and_eq_true] at ho
  exact (same_hd ho.1).trans (by rw [e]; rfl)
theorem ok_8 (e : h.kind = 8) (ho : okN h k = true) : h = emH 8 false false ⟨#[]⟩ 0 ⟨#[]⟩ := by
  rw [okN, if_neg (by omega), if_neg (by omega), if_neg (by omega), if_neg (by omega), if_neg (by omega), if_neg (by omega), if_neg (by omega), if_pos e, o_isMap, o_isArray, j_isArray, Bool.and_eq_true, Bool.and_eq_true, Bool.and_eq_true] at ho
  exact (same_hd ho.1.1.1).trans (by rw [e]; rfl)
theorem parse_head {c : UInt8} {r : List UInt8} {d : (Bool × Nat × Int) × List UInt8} (h : parseR (c :: r) = some d) : c = 45 ∨ isD c = true := by
  by_cases h1 : c = 45
  · exact .inl h1
  · cases h2 : isD c with
    | true => exact .inr rfl
    | false =>
      have h3 : offL (c :: r) = c :: r := by
        rw [offL, sgnL, if_neg]
        simp only [List.head?_cons, Option.some.injEq, decide_eq_true_eq]
        exact h1
      rw [parseR, h3, if_pos (ndig_none (show headIs isD (c :: r) = false from h2))] at h
      cases h
/-- The kind that a document's first byte tells. -/
def kc (c : UInt8) : Int := if c = 110 then 1 else if c = 116 ∨ c = 102 then 2 else if c = 34 then 5 else if c = 91 then 7 else if c = 123 then 8 else 3
theorem num_head (c : UInt8) (h : c = 45 ∨ isD c = true) : kc c = 3 ∧ c ≠ 93 ∧ c ≠ 125 := by
  have : ∀ c : Fin 256, (UInt8.ofNat c.1 = 45 ∨ isD (UInt8.ofNat c.1) = true) → kc (UInt8.ofNat c.1) = 3 ∧ UInt8.ofNat c.1 ≠ 93 ∧ UInt8.ofNat c.1 ≠ 125 := by decide +kernel
  have h2 := this ⟨c.toNat, UInt8.toNat_lt c⟩
  simp only [UInt8.ofNat_toNat] at h2
  exact h2 h
theorem leaf_num (e : h.kind = 3) : (leafB h).data.toList = sgL h.neg (fmtL h.dig.data.toList h.exp) := by
  rw [leafB, if_neg (by omega), if_neg (by omega), if_pos e, sgnB_data, fmtB_data]
theorem node_2 (e : h.kind = 2) : nodeL h k = (truthB h.b).data.toList := by rw [nodeL, if_neg (by omega), if_neg (by omega), leafB, if_neg (by omega), if_pos e]
theorem node_5 (e : h.kind = 5) : nodeL h k = (quoteB h.s).data.toList := by rw [nodeL, if_neg (by omega), if_neg (by omega), leafB, if_neg (by omega), if_neg (by omega), if_neg (by omega)]
theorem node_8 (e : h.kind = 8) : nodeL h k = 123 :: (listL k true false ++ [125]) := by rw [nodeL, if_neg (by omega), if_pos e]
theorem node_3 (e : h.kind = 3) : nodeL h k = sgL h.neg (fmtL h.dig.data.toList h.exp) := by rw [nodeL, if_neg (by omega), if_neg (by omega), leaf_num e]
theorem node_head (hq : Gq h k) : ∃ c r, nodeL h k = c :: r ∧ kc c = h.kind ∧ c ≠ 93 ∧ c ≠ 125 := by
  rcases hq.1.1 with e | e | ⟨e, er⟩ | ⟨e, _⟩ | e | e
  · exact ⟨110, [117, 108, 108], by rw [nodeL, if_neg (by omega), if_neg (by omega), leafB, if_pos e]; rfl, by rw [e]; rfl, by decide, by decide⟩
  · cases hb : h.b with
    | true => exact ⟨116, [114, 117, 101], by rw [nodeL, if_neg (by omega), if_neg (by omega), leafB, if_neg (by omega), if_pos e, hb]; rfl, by rw [e]; rfl, by decide, by decide⟩
    | false => exact ⟨102, [97, 108, 115, 101], by rw [nodeL, if_neg (by omega), if_neg (by omega), leafB, if_neg (by omega), if_pos e, hb]; rfl, by rw [e]; rfl, by decide, by decide⟩
  · have h1 := parse_fmt (t := []) er Stop.nil
    rw [List.append_nil] at h1
    cases hs : sgL h.neg (fmtL h.dig.data.toList h.exp) with
    | nil => rw [hs] at h1; exact absurd h1 (by rw [show parseR [] = none from rfl]; simp)
    | cons c r =>
      rw [hs] at h1
      have h2 := num_head c (parse_head h1)
      exact ⟨c, r, by rw [nodeL, if_neg (by omega), if_neg (by omega), leaf_num e, hs], by rw [e]; exact h2.1, h2.2.1, h2.2.2⟩
  · exact ⟨34, escAll h.s.data.toList ++ [34], by rw [nodeL, if_neg (by omega), if_neg (by omega), leafB, if_neg (by omega), if_neg (by omega), if_neg (by omega)]; rfl, by rw [e]; rfl, by decide, by decide⟩
  · exact ⟨91, _, by rw [nodeL, if_pos e], by rw [e]; rfl, by decide, by decide⟩
  · exact ⟨123, _, by rw [nodeL, if_neg (by omega), if_pos e], by rw [e]; rfl, by decide, by decide⟩
end
/-- Lists' documents tell their nodes. -/
def Inj (k : Fo) : Prop := ∀ (f2 : Fo) (m o : Bool) (c : UInt8) (x y : List UInt8), (c = 93 ∨ c = 125) → AllG Gq k → AllG Gq f2 → listL k m o ++ c :: x = listL f2 m o ++ c :: y → k = f2 ∧ x = y
theorem node_inj {h h2 : Hd} {k k2 : Fo} {x y : List UInt8} (IH : Inj k) (hq : Gq h k) (hq2 : Gq h2 k2) (hk : AllG Gq k) (hk2 : AllG Gq k2) (sx : Stop x) (sy : Stop y) (e : nodeL h k ++ x = nodeL h2 k2 ++ y) : (h = h2 ∧ k = k2) ∧ x = y := by
  have hkd : h.kind = h2.kind := by
    obtain ⟨c, r, h1, h3, _⟩ := node_head hq
    obtain ⟨c2, r2, h4, h5, _⟩ := node_head hq2
    rw [h1, h4, List.cons_append, List.cons_append, List.cons.injEq] at e
    rw [← h3, ← h5, e.1]
  rcases hq.1.1 with e1 | e1 | ⟨e1, er⟩ | ⟨e1, _⟩ | e1 | e1
  · have a1 := ok_1 e1 hq.2
    have a2 := ok_1 (hkd ▸ e1) hq2.2
    have hh : h = h2 := a1.1.trans a2.1.symm
    have hkk : k = k2 := a1.2.trans a2.2.symm
    subst hh hkk
    exact ⟨⟨rfl, rfl⟩, List.append_cancel_left e⟩
  · have e2 : h2.kind = 2 := hkd ▸ e1
    have a1 := ok_2 e1 hq.2
    have a2 := ok_2 e2 hq2.2
    have hb : h.b = h2.b := by
      rw [node_2 e1, node_2 e2] at e
      cases hb1 : h.b <;> cases hb2 : h2.b
      · rfl
      · rw [hb1, hb2] at e
        have e3 : (102 : UInt8) :: ([97, 108, 115, 101] ++ x) = 116 :: ([114, 117, 101] ++ y) := e
        exact absurd (List.cons.inj e3).1 (by decide)
      · rw [hb1, hb2] at e
        have e3 : (116 : UInt8) :: ([114, 117, 101] ++ x) = 102 :: ([97, 108, 115, 101] ++ y) := e
        exact absurd (List.cons.inj e3).1 (by decide)
      · rfl
    have hh : h = h2 := by rw [a1.1, a2.1, hb]
    have hkk : k = k2 := a1.2.trans a2.2.symm
    subst hh hkk
    exact ⟨⟨rfl, rfl⟩, List.append_cancel_left e⟩
  · have e2 : h2.kind = 3 := hkd ▸ e1
    have a1 := ok_3 e1 hq.2
    have a2 := ok_3 e2 hq2.2
    rw [node_3 e1, node_3 e2] at e
    have p1 := parse_fmt a1.2 sx
    have p2 := parse_fmt a2.2 sy
    rw [e, p2] at p1
    simp only [Option.some.injEq, Prod.mk.injEq] at p1
    obtain ⟨⟨q1, q2, q3⟩, q4⟩ := p1
    have hd : h.dig = h2.dig := by
      apply str_inj
      by_cases z1 : h.dig.data.toList = [48]
      · by_cases z2 : h2.dig.data.toList = [48]
        · rw [z1, z2]
        · have := (right_num a2.2 z2).2.1
          rw [q2, z1] at this
          exact absurd this (by decide)
      · by_cases z2 : h2.dig.data.toList = [48]
        · have := (right_num a1.2 z1).2.1
          rw [← q2, z2] at this
          exact absurd this (by decide)
        · rw [← (right_num a1.2 z1).1, ← (right_num a2.2 z2).1, q2]
    have hh : h = h2 := by rw [a1.1.1, a2.1.1, ← q1, hd, ← q3]
    exact ⟨⟨hh, a1.1.2.trans a2.1.2.symm⟩, q4.symm⟩
  · have e2 : h2.kind = 5 := hkd ▸ e1
    have a1 := ok_5 e1 hq.2
    have a2 := ok_5 e2 hq2.2
    rw [node_5 e1, node_5 e2] at e
    have e3 : escAll h.s.data.toList ++ 34 :: x = escAll h2.s.data.toList ++ 34 :: y := by
      have e4 : 34 :: (escAll h.s.data.toList ++ [34]) ++ x = 34 :: (escAll h2.s.data.toList ++ [34]) ++ y := e
      simpa using e4
    obtain ⟨q1, q2⟩ := esc_inj _ _ _ _ e3
    have hh : h = h2 := by rw [a1.1, a2.1, str_inj q1]
    exact ⟨⟨hh, a1.2.trans a2.2.symm⟩, q2⟩
  · have e2 : h2.kind = 7 := hkd ▸ e1
    rw [nodeL, nodeL, if_pos e1, if_pos e2] at e
    have e3 : listL k false false ++ 93 :: x = listL k2 false false ++ 93 :: y := by simpa using e
    obtain ⟨q1, q2⟩ := IH k2 false false 93 x y (.inl rfl) hk hk2 e3
    exact ⟨⟨(ok_7 e1 hq.2).trans (ok_7 e2 hq2.2).symm, q1⟩, q2⟩
  · have e2 : h2.kind = 8 := hkd ▸ e1
    rw [node_8 e1, node_8 e2] at e
    have e3 : listL k true false ++ 125 :: x = listL k2 true false ++ 125 :: y := by simpa using e
    obtain ⟨q1, q2⟩ := IH k2 true false 125 x y (.inr rfl) hk hk2 e3
    exact ⟨⟨(ok_8 e1 hq.2).trans (ok_8 e2 hq2.2).symm, q1⟩, q2⟩
theorem sepL_is (m o : Bool) : sepL m o = 58 ∨ sepL m o = 44 := by
  unfold sepL
  split
  · exact .inl rfl
  · exact .inr rfl
theorem sep_stop (m o : Bool) (t : List UInt8) : Stop (sepL m o :: t) := by
  rcases sepL_is m o with e | e <;> rw [e]
  · exact Stop.colon t
  · exact Stop.comma t
theorem list_inj : ∀ (f : Fo), Inj f
  | .nil, .nil, m, o, c, x, y, _, _, _, e => by
    simp only [listL, List.nil_append, List.cons.injEq, true_and] at e
    exact ⟨rfl, e⟩
  | .nil, .cons h2 k2 r2, m, o, c, x, y, hc, _, g2, e => by
    obtain ⟨d, r, h1, _, h3, h4⟩ := node_head g2.1
    rw [listL_cons, h1] at e
    simp only [listL, List.nil_append, List.cons_append, List.cons.injEq] at e
    rcases hc with rfl | rfl
    · exact absurd e.1.symm h3
    · exact absurd e.1.symm h4
  | .cons h k r, .nil, m, o, c, x, y, hc, g, _, e => by
    obtain ⟨d, r', h1, _, h3, h4⟩ := node_head g.1
    rw [listL_cons, h1] at e
    simp only [listL, List.nil_append, List.cons_append, List.cons.injEq] at e
    rcases hc with rfl | rfl
    · exact absurd e.1 h3
    · exact absurd e.1 h4
  | .cons h k r, .cons h2 k2 r2, m, o, c, x, y, hc, g, g2, e => by
    have I1 := list_inj k
    have I2 := list_inj r
    have sc : ∀ t, Stop (c :: t) := fun t => by
      rcases hc with rfl | rfl
      · exact Stop.brack t
      · exact Stop.brace t
    have stp : ∀ (r : Fo) (z : List UInt8), Stop ((if r.isNil then [] else [sepL m o]) ++ (listL r m (!o) ++ c :: z)) := by
      intro r z
      cases r with
      | nil => exact sc z
      | cons a b d => exact sep_stop m o _
    rw [listL_cons, listL_cons] at e
    simp only [List.append_assoc] at e
    obtain ⟨⟨rfl, rfl⟩, q⟩ := node_inj I1 g.1 g2.1 g.2.1 g2.2.1 (stp r x) (stp r2 y) e
    have hcs : c ≠ sepL m o := by
      rcases hc with rfl | rfl <;> rcases sepL_is m o with e2 | e2 <;> rw [e2] <;> decide
    cases r with
    | nil =>
      cases r2 with
      | nil =>
        have q3 : c :: x = c :: y := q
        exact ⟨rfl, (List.cons.inj q3).2⟩
      | cons a b d =>
        have q3 : c :: x = sepL m o :: (listL (.cons a b d) m (!o) ++ c :: y) := q
        exact absurd (List.cons.inj q3).1 hcs
    | cons a b d =>
      cases r2 with
      | nil =>
        have q3 : sepL m o :: (listL (.cons a b d) m (!o) ++ c :: x) = c :: y := q
        exact absurd (List.cons.inj q3).1.symm hcs
      | cons a2 b2 d2 =>
        have q3 : sepL m o :: (listL (.cons a b d) m (!o) ++ c :: x) = sepL m o :: (listL (.cons a2 b2 d2) m (!o) ++ c :: y) := q
        obtain ⟨q4, q5⟩ := I2 (.cons a2 b2 d2) m (!o) c x y hc g.2.2 g2.2.2 (List.cons.inj q3).2
        exact ⟨by rw [q4], q5⟩
theorem gq_all : ∀ (f : Fo), okAll okN f = true → fitAll (frmOf 1) f = true → f.cnt ≤ 300 → AllG Gq f
  | .nil, _, _, _ => trivial
  | .cons h k r, h1, h2, h3 => by
    rw [okAll] at h1
    rw [fitAll] at h2
    simp only [Bool.and_eq_true, decide_eq_true_eq] at h1 h2
    rw [Fo.cnt] at h3
    have := len_cnt k
    exact ⟨⟨gj_of h k h1.1.1.2 h2.1.1 h1.1.1.1 (by omega), h1.1.1.2⟩, gq_all k h1.1.2 h2.1.2 (by omega), gq_all r h1.2 h2.2 (by omega)⟩
theorem chk_gq {h : Hd} {k : Fo} (e : chk 1 h k = 0) : AllG Gq (.cons h k .nil) := by
  unfold chk at e
  split at e
  · rename_i h1
    split at e
    · rename_i h2
      rw [rgt, rightR, Bool.and_eq_true, decide_eq_true_eq] at h1
      exact gq_all _ h1.2 h2 (by simp only [Fo.cnt]; omega)
    · cases e
  · cases e
/-- Two trees that fit have the same plain document just if they are the same. -/
theorem docs_apart {h h2 : Hd} {k k2 : Fo} (e : chk 1 h k = 0) (e2 : chk 1 h2 k2 = 0) : decide ((nodeB layP 0 h k).toList = (nodeB layP 0 h2 k2).toList) = (sameH h h2 && sameF k k2) := by
  have g := chk_gq e
  have g2 := chk_gq e2
  rw [Bool.eq_iff_iff, decide_eq_true_eq, Bool.and_eq_true]
  constructor
  · intro hd
    have hd2 : nodeL h k ++ [] = nodeL h2 k2 ++ [] := by rw [← node_list 0 h k, ← node_list 0 h2 k2, bytes_eq hd]
    obtain ⟨⟨rfl, rfl⟩, _⟩ := node_inj (list_inj k) g.1 g2.1 g.2.1 g2.2.1 Stop.nil Stop.nil hd2
    exact ⟨same_self h, same_fself k⟩
  · rintro ⟨h1, h3⟩
    rw [same_hd h1, same_fo _ _ h3]
end Go.Proofs.YtallgamfjbkdgaaGreatDoor
