/- The program's own: isMap; all the methods. The program's own: Right, Check. -/
import Derived.Test.YtppapkpceejnkaaGreatDoorMn
import Derived.Test.YtppapkpceejnkaaGreatDoorTO
import Derived.Test.YtppapkpceejnkaaGreatDoorMo
import Derived.Test.YtppapkpceejnkaaGreatDoorMm

namespace Go.Proofs.YtppapkpceejnkaaGreatDoor
open Go.RowKit

set_option maxRecDepth 100000 in
theorem Collect_calls (f : Fo) (v : Value) (Bs : Nat) (w : World) (hs : w.cell? ⟨Bs, 0, none⟩ = some v) (hk : Kd An w v f) (hfl : f.len < 1353245080301) :
    Calls Tryz.prog 130 #[.func (.func 171) #[] #[.pointer (some ⟨Bs, 0, none⟩)]] w fun o w' => ∃ v', o = .returned v' ∧ Kd An w' v' (keysF f) ∧ Below w.heap.size w w' := by
  have HS := Lib.hid hs
  have HK := Lib.hid hk
  clear hs hk
  go_enter Tryz.func130, Tryz.ntmps130
  go_wp2_with fail
  refine (AppendSeq_calls f v Bs _ HS.out HK.out hfl).mono ?_
  rintro o w1 ⟨v', rfl, hk1, hb1⟩
  obtain ⟨A, c, rfl, _, _, _⟩ := hk1.form
  have HK1 := Lib.hid hk1
  have HB1 := Lib.hid hb1
  clear hk1 hb1
  go_wp2_with fail
  go_ret
  exact ⟨_, rfl, HK1.out, HB1.out⟩
def o_isMap (h : Hd) (k : Fo) : Bool := o_isArray h k.len && decide (k.len % 2 = 0) && distF (keysF k)
set_option maxRecDepth 100000 in
theorem isMap_calls (h : Hd) (k : Fo) (v : Value) (w : World) (hk : Kd An w v k) (hfl : k.len < 1353245080301) : Calls Tryz.prog 87 #[.agg (h.cells v)] w (BolP (o_isMap h k) w) := by
  obtain ⟨A, c, rfl, _, _, _⟩ := hk.form
  have HK := Lib.hid hk
  obtain ⟨J, hJ⟩ : ∃ J, J = o_isArray h k.len := ⟨_, rfl⟩
  have HJ := Lib.hid hJ
  have HU : Hid (∀ W, Calls Tryz.prog 86 #[.agg (h.cells (.slice A k.len c))] W (BolP J W)) := Lib.hid (fun W => by rw [hJ]; exact isArray_calls h A k.len c W)
  clear hJ hk
  simp only [Hd.cells] at HU ⊢
  go_enter Tryz.func87, Tryz.ntmps87
  go_wp2_with fail
  refine (HU.out _).mono ?_
  rintro o w1 ⟨rfl, hb1⟩
  have HX := Lib.hid ((Nq.new w h (.slice A k.len c)).below hb1)
  have HB := Lib.hid (below_nx (below_a (Below.refl _ _) _) hb1)
  clear hb1 HU
  cases J with
  | false =>
    go_wp2_with fail
    go_ret
    exact ⟨by rw [o_isMap, ← HJ.out]; rfl, HB.out⟩
  | true =>
    obtain ⟨c0, c1, c2, c3, c4, c5, c6, c7, c8⟩ := HX.out.nine
    by_cases he : k.len % 2 = 0
    · have he2 : ((k.len : Int)).tmod 2 = 0 := by rw [Int.tmod_eq_emod_of_nonneg (by omega)]; omega
      have HO : Hid (o_isMap h k = distF (keysF k)) := Lib.hid (by rw [o_isMap, ← HJ.out, decide_eq_true he]; rfl)
      clear he
      go_wp2_with fail
      refine (keys_calls _ _ _ _).mono ?_
      rintro o w2 ⟨rfl, hw2⟩
      have HS : Hid (w2.cell? ⟨w1.heap.size, 0, none⟩ = some (.slice A k.len c)) := Lib.hid (by rw [hw2]; exact (Bx.new w1 _ _).c 0 rfl)
      have HB2 : Hid (Below w.heap.size w w2) := Lib.hid (by rw [hw2]; exact below_a HB.out _)
      clear hw2
      go_wp2_with fail
      refine (Collect_calls k _ w1.heap.size w2 HS.out (HK.out.below HB2.out) hfl).mono ?_
      rintro o w3 ⟨v3, rfl, hk3, hb3⟩
      have HB3 := Lib.hid (below_nx HB2.out hb3)
      have HK3 := Lib.hid hk3
      obtain ⟨A3, c3, rfl, _, _, _⟩ := hk3.form
      clear hk3 hb3
      go_wp2_with fail
      refine (areDistinct_calls _ _ _ HK3.out).mono ?_
      rintro o w4 ⟨rfl, hb4⟩
      have HB4 := Lib.hid (below_nx HB3.out hb4)
      clear hb4
      go_wp2_with fail
      go_ret
      exact ⟨by rw [HO.out]; rfl, HB4.out⟩
    · have he2 : ¬ ((k.len : Int)).tmod 2 = 0 := by rw [Int.tmod_eq_emod_of_nonneg (by omega)]; omega
      have HO : Hid (o_isMap h k = false) := Lib.hid (by rw [o_isMap, ← HJ.out, decide_eq_false he]; rfl)
      clear he
      go_wp2_with fail
      go_ret
      exact ⟨by rw [HO.out]; rfl, HB.out⟩
/-- Whether a node is right, those of its list aside. -/
def okN (h : Hd) (k : Fo) : Bool := if h.kind = 1 then o_isNull h k.len else if h.kind = 2 then o_isBool h k.len else if h.kind = 3 then o_isNum h k.len else if h.kind = 4 then o_isFloat h k.len else if h.kind = 5 then o_isText h k.len else if h.kind = 6 then o_isBytes h k.len else if h.kind = 7 then o_isArray h k.len else if h.kind = 8 then o_isMap h k else if h.kind = 9 then o_isTag h k.len else if h.kind = 10 then o_isSimple h k.len else if h.kind = 11 then o_isExt h k.len else false
theorem methods : Meth Tw okN := by
  intro h k v W f hT hk hu hgl hf
  obtain ⟨A, c, rfl, _, _, _⟩ := hk.form
  have hkind : 1 ≤ h.kind ∧ h.kind ≤ 11 := by
    apply Decidable.byContradiction
    intro hn
    have : kindF h.kind = .nilFunc := by
      simp only [kindF]
      rw [if_neg (by omega)]
      rw [if_neg (by omega)]
      rw [if_neg (by omega)]
      rw [if_neg (by omega)]
      rw [if_neg (by omega)]
      rw [if_neg (by omega)]
      rw [if_neg (by omega)]
      rw [if_neg (by omega)]
      rw [if_neg (by omega)]
      rw [if_neg (by omega)]
      rw [if_neg (by omega)]
    rw [this] at hf
    cases hf
  have : h.kind = 1 ∨ h.kind = 2 ∨ h.kind = 3 ∨ h.kind = 4 ∨ h.kind = 5 ∨ h.kind = 6 ∨ h.kind = 7 ∨ h.kind = 8 ∨ h.kind = 9 ∨ h.kind = 10 ∨ h.kind = 11 := by omega
  rcases this with e | e | e | e | e | e | e | e | e | e | e
  · rw [kindF, if_pos e] at hf
    cases hf
    rw [okN, if_pos e]
    exact isNull_calls h A k.len c W
  · rw [kindF, if_neg (by omega), if_pos e] at hf
    cases hf
    rw [okN, if_neg (by omega), if_pos e]
    exact isBool_calls h A k.len c W
  · rw [kindF, if_neg (by omega), if_neg (by omega), if_pos e] at hf
    cases hf
    rw [okN, if_neg (by omega), if_neg (by omega), if_pos e]
    exact isNum_calls h A k.len c W
  · rw [kindF, if_neg (by omega), if_neg (by omega), if_neg (by omega), if_pos e] at hf
    cases hf
    rw [okN, if_neg (by omega), if_neg (by omega), if_neg (by omega), if_pos e]
    exact isFloat_calls h A k.len c W hu hT
  · rw [kindF, if_neg (by omega), if_neg (by omega), if_neg (by omega), if_neg (by omega), if_pos e] at hf
    cases hf
    rw [okN, if_neg (by omega), if_neg (by omega), if_neg (by omega), if_neg (by omega), if_pos e]
    exact isText_calls h A k.len c W
  · rw [kindF, if_neg (by omega), if_neg (by omega), if_neg (by omega), if_neg (by omega), if_neg (by omega), if_pos e] at hf
    cases hf
    rw [okN, if_neg (by omega), if_neg (by omega), if_neg (by omega), if_neg (by omega), if_neg (by omega), if_pos e]
    exact isBytes_calls h A k.len c W
  · rw [kindF, if_neg (by omega), if_neg (by omega), if_neg (by omega), if_neg (by omega), if_neg (by omega), if_neg (by omega), if_pos e] at hf
    cases hf
    rw [okN, if_neg (by omega), if_neg (by omega), if_neg (by omega), if_neg (by omega), if_neg (by omega), if_neg (by omega), if_pos e]
    exact isArray_calls h A k.len c W
  · rw [kindF, if_neg (by omega), if_neg (by omega), if_neg (by omega), if_neg (by omega), if_neg (by omega), if_neg (by omega), if_neg (by omega), if_pos e] at hf
    cases hf
    rw [okN, if_neg (by omega), if_neg (by omega), if_neg (by omega), if_neg (by omega), if_neg (by omega), if_neg (by omega), if_neg (by omega), if_pos e]
    exact isMap_calls h k _ W hk hgl
  · rw [kindF, if_neg (by omega), if_neg (by omega), if_neg (by omega), if_neg (by omega), if_neg (by omega), if_neg (by omega), if_neg (by omega), if_neg (by omega), if_pos e] at hf
    cases hf
    rw [okN, if_neg (by omega), if_neg (by omega), if_neg (by omega), if_neg (by omega), if_neg (by omega), if_neg (by omega), if_neg (by omega), if_neg (by omega), if_pos e]
    exact isTag_calls h A k.len c W
  · rw [kindF, if_neg (by omega), if_neg (by omega), if_neg (by omega), if_neg (by omega), if_neg (by omega), if_neg (by omega), if_neg (by omega), if_neg (by omega), if_neg (by omega), if_pos e] at hf
    cases hf
    rw [okN, if_neg (by omega), if_neg (by omega), if_neg (by omega), if_neg (by omega), if_neg (by omega), if_neg (by omega), if_neg (by omega), if_neg (by omega), if_neg (by omega), if_pos e]
    exact isSimple_calls h A k.len c W
  · rw [kindF, if_neg (by omega), if_neg (by omega), if_neg (by omega), if_neg (by omega), if_neg (by omega), if_neg (by omega), if_neg (by omega), if_neg (by omega), if_neg (by omega), if_neg (by omega), if_pos e] at hf
    cases hf
    rw [okN, if_neg (by omega), if_neg (by omega), if_neg (by omega), if_neg (by omega), if_neg (by omega), if_neg (by omega), if_neg (by omega), if_neg (by omega), if_neg (by omega), if_neg (by omega), if_pos e]
    exact isExt_calls h A k.len c W
end Go.Proofs.YtppapkpceejnkaaGreatDoor

namespace Go.Proofs.YtppapkpceejnkaaGreatDoor
open Go.RowKit

/-- What the world must hold. -/
def Tq (w : World) : Prop := Tt w ∧ ∃ aT aF, Te w aT aF
theorem Tq.below {A B : World} (h : Tq A) (hb : Below A.heap.size A B) : Tq B := ⟨h.1.below hb, h.2.imp fun _ h => h.imp fun _ h => h.below hb⟩
def rgt (h : Hd) (k : Fo) : Bool := rightR okN h k
def chk (n : Int) (h : Hd) (k : Fo) : Int := if rgt h k then (if fitAll (frmOf n) (.cons h k .nil) then 0 else 61) else 60
theorem ok_kinds {ok : Hd → Fo → Bool} : ∀ {f : Fo}, okAll ok f = true → AllG Gk f
  | .nil, _ => trivial
  | .cons h k r, e => by
    rw [okAll] at e
    simp only [Bool.and_eq_true, decide_eq_true_eq] at e
    exact ⟨e.1.1.1, ok_kinds e.1.2, ok_kinds e.2⟩
theorem rgt_kinds {h : Hd} {k : Fo} (e : rgt h k = true) : AllG Gk (.cons h k .nil) := by
  rw [rgt, rightR, Bool.and_eq_true] at e
  exact ok_kinds e.2
set_option maxRecDepth 100000 in
theorem Check_calls (n : Int) (k : Fo) (h : Hd) (v : Value) (w : World) (hT : Tq w) (hk : Kd An w v k) (hu : h.u < 18446744073709551616) (hd : k.deep < 1000) (hS : AllG Gl (.cons h k .nil)) :
    Calls Tryz.prog 17 #[.agg (h.cells v), .int .i64 n] w fun o w' => o = .returned (.int .i64 (chk n h k)) ∧ Below w.heap.size w w' := by
  obtain ⟨hT1, aT, aF, hE⟩ := hT
  obtain ⟨A, c, rfl, _, _, _⟩ := hk.form
  have HK := Lib.hid hk
  have HT := Lib.hid hT1
  have HE := Lib.hid hE
  obtain ⟨R, hR⟩ : ∃ R, R = rgt h k := ⟨_, rfl⟩
  obtain ⟨Q, hQ⟩ : ∃ Q, Q = fitAll (frmOf n) (.cons h k .nil) := ⟨_, rfl⟩
  have HC : Hid (chk n h k = if R then (if Q then 0 else 61) else 60) := Lib.hid (by rw [chk, hR, hQ])
  have HRt : Hid (∀ W, Below w.heap.size w W → Calls Tryz.prog 32 #[.agg (h.cells (.slice A k.len c))] W fun o w' => o = .returned (rtV R aT) ∧ Below W.heap.size W w') := Lib.hid (fun W hW => by
    rw [hR]
    exact rightTree_calls Tw (fun _ _ h hb => h.below hb) okN methods k h _ W aT aF (HT.out.below hW).1 (HE.out.below hW) (HK.out.below hW) hu hd hS)
  have HFt : Hid (R = true → ∀ W, Below w.heap.size w W → Calls Tryz.prog 33 #[.agg (h.cells (.slice A k.len c)), .int .i64 n] W fun o w' => o = .returned (rtV Q aF) ∧ Below W.heap.size W w') := Lib.hid (fun e W hW => by
    rw [hQ]
    exact fittingTree_calls n k h _ W aT aF (HT.out.below hW) (HE.out.below hW) (HK.out.below hW) hu hd (rgt_kinds (by rw [← hR]; exact e)) hS)
  clear hk hT1 hE hR hQ
  simp only [Hd.cells] at HRt HFt ⊢
  go_enter Tryz.func17, Tryz.ntmps17
  go_wp2_with fail
  refine (HRt.out _ (below_a (Below.refl _ _) _)).mono ?_
  rintro o w1 ⟨rfl, hb1⟩
  have HX := Lib.hid ((Nx.new w h (.slice A k.len c)).below hb1)
  have HB := Lib.hid (below_nx (below_a (Below.refl _ _) _) hb1)
  clear hb1
  cases R with
  | true =>
    obtain ⟨c0, c1, c2, c3, c4, c5, c6, c7, c8⟩ := HX.out.nine
    simp only [rtV, if_true]
    go_wp2_with fail
    refine (HFt.out (by first | rfl | trivial) _ HB.out).mono ?_
    rintro o w2 ⟨rfl, hb2⟩
    have HB2 := Lib.hid (below_nx HB.out hb2)
    have g0 := (HE.out.below (below_nx HB.out hb2)).t
    have g1 := (HE.out.below (below_nx HB.out hb2)).f
    clear hb2
    cases Q with
    | true =>
      simp only [rtV, if_true]
      go_wp2_with (go_at_call 34; refine (is_nil _ _).mono ?_; rintro o w3 ⟨rfl, rfl⟩)
      go_ret
      exact ⟨by rw [HC.out]; rfl, HB2.out⟩
    | false =>
      obtain ⟨ct, tt, ht⟩ := (HE.out.below HB2.out).bt
      obtain ⟨cf, tf, hf⟩ := (HE.out.below HB2.out).bf
      have HO := Lib.hid (is_other aF aT cf ct tf tt w2 HE.out.ne hf ht)
      clear ht hf
      simp only [rtV, Bool.false_eq_true, if_false]
      go_wp2_with fail
      refine HO.out.mono ?_
      rintro o w3 ⟨rfl, rfl⟩
      go_wp2_with fail
      refine (is_same _ _).mono ?_
      rintro o w3 ⟨rfl, rfl⟩
      go_wp2_with fail
      go_ret
      exact ⟨by rw [HC.out]; rfl, HB2.out⟩
  | false =>
    have g0 := (HE.out.below HB.out).t
    simp only [rtV, Bool.false_eq_true, if_false]
    go_wp2_with fail
    refine (is_same _ _).mono ?_
    rintro o w3 ⟨rfl, rfl⟩
    go_wp2_with fail
    go_ret
    exact ⟨by rw [HC.out]; rfl, HB.out⟩
end Go.Proofs.YtppapkpceejnkaaGreatDoor
