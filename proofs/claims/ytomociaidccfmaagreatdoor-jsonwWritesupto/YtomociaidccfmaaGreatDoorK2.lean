/- The document's own: lines, write. -/
import Derived.Test.YtomociaidccfmaaGreatDoorK0
import Derived.Test.YtomociaidccfmaaGreatDoorK1
namespace Go.Proofs.YtomociaidccfmaaGreatDoor
open Go.RowKit

def layOf (p : Bool) : Lay := if p then layQ else layP
theorem layOf_ok (p : Bool) : (layOf p).ok := by cases p; exact okP; exact okQ
theorem repS_more (s : ByteArray) (n : Nat) : repS s n ++ s = repS s (n + 1) := str_inj (by
  rw [app_data]
  show Lib.repeatL _ _ ++ _ = Lib.repeatL _ _
  rw [Lib.repeatL_add, Lib.repeatL_one])
set_option maxRecDepth 100000 in
theorem rlines_no (n : Int) (w : World) : Calls Tryz.prog 24 #[.bool false, .int .i64 n] w fun o w' => o = .returned (.string ⟨#[]⟩) ∧ w = w' := by
  go_enter Tryz.func24, Tryz.ntmps24
  go_wp2
  go_ret
  exact ⟨rfl, rfl⟩
set_option maxRecDepth 100000 in
theorem rlines_yes (n : Nat) (w : World) (hn : n ≤ 40) : Calls Tryz.prog 24 #[.bool true, .int .i64 (n : Int)] w fun o w' => o = .returned (.string (nlB layQ n)) ∧ w = w' := by
  go_enter Tryz.func24, Tryz.ntmps24
  go_wp2
  go_loop [5, 6] (fun v x => ∃ (S : ByteArray) (t : Nat), v = .string S ∧ x = .int .i64 t ∧ t ≤ n ∧ Hid (S = nlB layQ t)) (fun _ x => n - (intOf x).toNat)
  case atStart => exact ⟨⟨#[10]⟩, 0, rfl, rfl, Nat.zero_le _, Lib.hid (by rw [nlB]; exact (app_e _).symm)⟩
  case round =>
    obtain ⟨S, t, rfl, rfl, ht, HS⟩ := hrel
    have hSs : S.size ≤ 81 := by rw [HS.out]; exact nlB_le okQ (by omega)
    by_cases hlt : t < n
    · have HN : Hid (S ++ ⟨#[32, 32]⟩ = nlB layQ (t + 1)) := Lib.hid (by
        rw [HS.out, nlB, nlB, ByteArray.append_assoc]
        congr 1
        exact repS_more _ _)
      go_wp2
      go_round
      case rel => exact ⟨_, t + 1, rfl, by go_num, hlt, HN⟩
      case measure => simp [intOf]; omega
    · obtain rfl : t = n := by omega
      go_wp2
      go_ret
      exact ⟨by rw [← HS.out]; rfl, rfl⟩
theorem rlines_calls (p : Bool) (n : Nat) (w : World) (hn : n ≤ 40) : Calls Tryz.prog 24 #[.bool p, .int .i64 (n : Int)] w fun o w' => o = .returned (.string (nlB (layOf p) n)) ∧ w = w' := by
  cases p with
  | false => rw [show layOf false = layP from rfl, nlB_P]; exact rlines_no n w
  | true => exact rlines_yes n w hn
/-- What write answers. -/
def WriP (L : Lay) (i : Nat) (h : Hd) (k : Fo) (w : World) (o : Ending) (w' : World) : Prop := o = .returned (.string (nodeB L i h k)) ∧ Below w.heap.size w w'
/-- A node that fits, its members in pairs. -/
def Gw : Hd → Fo → Prop := fun h k => Gj h k ∧ (h.kind = 8 → k.len % 2 = 0)
set_option maxRecDepth 100000 in
set_option maxHeartbeats 1000000 in
theorem rwrite_1 (L : Lay) (h : Hd) (k : Fo) (v : Value) (p : Bool) (i : Nat) (w : World) (hK : h.kind = 1) : Calls Tryz.prog 15 #[.agg (h.cells v), .bool p, .int .i64 (i : Int)] w (WriP L i h k w) := by
  rcases h with ⟨kd, b, neg, dig, exp, u, wd, s⟩
  obtain rfl : kd = 1 := hK
  simp only [Hd.cells]
  go_enter Tryz.func15, Tryz.ntmps15
  go_wp2_with fail
  go_ret
  exact ⟨rfl, below_a (Below.refl _ _) _⟩
set_option maxRecDepth 100000 in
set_option maxHeartbeats 1000000 in
theorem rwrite_2 (L : Lay) (h : Hd) (k : Fo) (v : Value) (p : Bool) (i : Nat) (w : World) (hK : h.kind = 2) : Calls Tryz.prog 15 #[.agg (h.cells v), .bool p, .int .i64 (i : Int)] w (WriP L i h k w) := by
  rcases h with ⟨kd, b, neg, dig, exp, u, wd, s⟩
  obtain rfl : kd = 2 := hK
  cases b
  all_goals
   simp only [Hd.cells]
   go_enter Tryz.func15, Tryz.ntmps15
   go_wp2_with fail
   go_ret
   exact ⟨rfl, below_a (Below.refl _ _) _⟩
set_option maxRecDepth 100000 in
set_option maxHeartbeats 1000000 in
theorem rwrite_3 (L : Lay) (h : Hd) (k : Fo) (v : Value) (p : Bool) (i : Nat) (w : World) (hK : h.kind = 3) (hR : rightD h.neg h.dig.data.toList h.exp = true) : Calls Tryz.prog 15 #[.agg (h.cells v), .bool p, .int .i64 (i : Int)] w (WriP L i h k w) := by
  rcases h with ⟨kd, b, neg, dig, exp, u, wd, s⟩
  obtain rfl : kd = 3 := hK
  have HR : Hid (rightD neg dig.data.toList exp = true) := Lib.hid hR
  clear hR
  obtain ⟨D, hD⟩ : ∃ D, D = sgnB neg (fmtB dig exp) := ⟨_, rfl⟩
  have HN : Hid (nodeB L i ⟨3, b, neg, dig, exp, u, wd, s⟩ k = D) := Lib.hid (by rw [hD]; rfl)
  have HF : Hid (∀ W, Calls Tryz.prog 22 #[.agg #[.bool neg, .string dig, .int .i64 exp]] W fun o w' => o = .returned (.tuple #[.string D, .int .i64 0]) ∧ Below W.heap.size W w') := Lib.hid (fun W => (rFormat_calls neg dig exp W).mono (by
    rintro o w' ⟨⟨_, he⟩ | ⟨hf, _⟩, hb⟩
    · exact ⟨by rw [he, hD], hb⟩
    · rw [HR.out] at hf; cases hf))
  clear hD
  simp only [Hd.cells]
  go_enter Tryz.func15, Tryz.ntmps15
  go_wp2_with fail
  refine (HF.out _).mono ?_
  rintro o w2 ⟨rfl, hb2⟩
  have HB2 := Lib.hid (below_nx (below_a (Below.refl _ _) _) hb2)
  clear hb2
  go_wp2_with fail
  go_ret
  exact ⟨by rw [HN.out]; rfl, HB2.out⟩
set_option maxRecDepth 100000 in
set_option maxHeartbeats 1000000 in
theorem rwrite_5 (L : Lay) (h : Hd) (k : Fo) (v : Value) (p : Bool) (i : Nat) (w : World) (hK : h.kind = 5) (hU : utfW h.s 0 = true) (hs : h.s.size ≤ 400) : Calls Tryz.prog 15 #[.agg (h.cells v), .bool p, .int .i64 (i : Int)] w (WriP L i h k w) := by
  rcases h with ⟨kd, b, neg, dig, exp, u, wd, s⟩
  obtain rfl : kd = 5 := hK
  obtain ⟨D, hD⟩ : ∃ D, D = quoteB s := ⟨_, rfl⟩
  have HN : Hid (nodeB L i ⟨5, b, neg, dig, exp, u, wd, s⟩ k = D) := Lib.hid (by rw [hD]; rfl)
  have HF : Hid (∀ W, Calls Tryz.prog 23 #[.string s] W fun o w' => o = .returned (.tuple #[.string D, .int .i64 0]) ∧ Below W.heap.size W w') := Lib.hid (fun W => by rw [hD]; exact rQuote_yes s W hU (Nat.le_trans hs (by decide)))
  clear hD hU hs
  simp only [Hd.cells]
  go_enter Tryz.func15, Tryz.ntmps15
  go_wp2_with fail
  refine (HF.out _).mono ?_
  rintro o w2 ⟨rfl, hb2⟩
  have HB2 := Lib.hid (below_nx (below_a (Below.refl _ _) _) hb2)
  clear hb2
  go_wp2_with fail
  go_ret
  exact ⟨by rw [HN.out]; rfl, HB2.out⟩
set_option maxRecDepth 100000 in
set_option maxHeartbeats 3000000 in
theorem rwrite_7 (h : Hd) (k : Fo) (v : Value) (p : Bool) (i : Nat) (w : World) (hk : Kd An w v k) (hK : h.kind = 7) (hi : i ≤ 30) (hT : (outF (layOf p) i false k 0).size ≤ 1000000) (hev : false = true → k.len % 2 = 0) (hlen : k.len ≤ 300) (hpos : k ≠ .nil → 0 < (outF (layOf p) i false k 0).size)
    (hI : ∀ (j : Nat) (h' : Hd) (k' r : Fo) (v' : Value) (W : World), k.drop j = .cons h' k' r → Below w.heap.size w W → Kd An w v' k' → Calls Tryz.prog 15 #[.agg (h'.cells v'), .bool p, .int .i64 ((i + 1 : Nat) : Int)] W (WriP (layOf p) (i + 1) h' k' W)) :
    Calls Tryz.prog 15 #[.agg (h.cells v), .bool p, .int .i64 (i : Int)] w (WriP (layOf p) i h k w) := by
  obtain ⟨A, c, rfl, hc, hl, hL⟩ := hk.form
  obtain ⟨L, hLe⟩ : ∃ L, L = layOf p := ⟨_, rfl⟩
  have HLok : Hid (L.ok) := Lib.hid (by rw [hLe]; exact layOf_ok p)
  have HLk : Hid ((p = true → L.k = ⟨#[32]⟩) ∧ (p = false → L.k = ⟨#[]⟩)) := Lib.hid (by rw [hLe]; exact ⟨fun e => by subst e; rfl, fun e => by subst e; rfl⟩)
  have HLi : Hid (∀ n W, n ≤ 40 → Calls Tryz.prog 24 #[.bool p, .int .i64 ((n : Nat) : Int)] W fun o w' => o = .returned (.string (nlB L n)) ∧ W = w') := Lib.hid (fun n W hn => by rw [hLe]; exact rlines_calls p n W hn)
  rw [← hLe] at hT hI hpos ⊢
  clear hLe
  have HI := Lib.hid hI
  have HL := Lib.hid hL
  have HT := Lib.hid hT
  have HP := Lib.hid hpos
  obtain ⟨T, hTe⟩ : ∃ T, T = outF L i false k 0 := ⟨_, rfl⟩
  have HTe := Lib.hid hTe
  rcases h with ⟨kd, b, neg, dig, exp, u, wd, s⟩
  obtain rfl : kd = 7 := hK
  have HFin : Hid ((k = .nil → nodeB L i ⟨7, b, neg, dig, exp, u, wd, s⟩ k = ⟨#[91]⟩ ++ ⟨#[]⟩ ++ ⟨#[93]⟩ ∧ T = ⟨#[]⟩) ∧ (k ≠ .nil → nodeB L i ⟨7, b, neg, dig, exp, u, wd, s⟩ k = ⟨#[91]⟩ ++ (T ++ nlB L i) ++ ⟨#[93]⟩)) := Lib.hid (by
    refine ⟨fun e => ?_, fun e => ?_⟩
    · subst e
      exact ⟨rfl, hTe⟩
    · rw [hTe, outF_all L i false k e hev]
      cases k with
      | nil => exact absurd rfl e
      | cons _ _ _ => rfl)
  clear hk hL hI hc hT hpos hTe hev
  have HX := Lib.hid (Nx.new w ⟨7, b, neg, dig, exp, u, wd, s⟩ (.slice A k.len c))
  have HB := Lib.hid (below_a (Below.refl _ w) (.cells ((⟨7, b, neg, dig, exp, u, wd, s⟩ : Hd).cells (.slice A k.len c)) 27))
  simp only [Hd.cells]
  go_enter Tryz.func15, Tryz.ntmps15
  go_wp2_with fail
  go_loopw [11, 12] (fun x y wr => ∃ (S : ByteArray) (j : Nat), x = .string S ∧ y = .int .i64 j ∧ j ≤ k.len ∧ Hid (S ++ outF L i false (k.drop j) j = T) ∧ Below w.heap.size w wr ∧ Nx wr w.heap.size ⟨7, b, neg, dig, exp, u, wd, s⟩ (.slice A k.len c)) (fun _ y _ => k.len - (intOf y).toNat)
  case atStart => exact ⟨⟨#[]⟩, 0, rfl, rfl, Nat.zero_le _, Lib.hid (by rw [e_app, HTe.out]; rfl), HB.out, HX.out⟩
  case round =>
    obtain ⟨S, j, rfl, rfl, hj, HS, hb, hbx⟩ := hrel
    have HB3 := Lib.hid hb
    have HX3 := Lib.hid hbx
    obtain ⟨q0, q1, q2, q3, q4, q5, q6, q7, q8⟩ := hbx.nine
    have hSs : S.size ≤ 1000000 := by
      have h1 := HT.out
      rw [← HTe.out, ← HS.out, ByteArray.size_append] at h1
      omega
    clear hb hbx HB HX q1 q2 q3 q4 q5 q6 q7
    by_cases hgo : j < k.len
    · obtain ⟨B, o, rfl, hB, _, hLi⟩ := HL.out (by omega)
      obtain ⟨h', k', r, hd⟩ := drop_cons hgo
      have hLj := lies_drop j hLi
      rw [hd] at hLj
      obtain ⟨⟨v', hc', hk'⟩, hu', _⟩ := lies_cons.1 hLj
      obtain ⟨X, hX⟩ : ∃ X, X = nodeB L (i + 1) h' k' := ⟨_, rfl⟩
      obtain ⟨N, hN⟩ : ∃ N, N = nlB L (i + 1) := ⟨_, rfl⟩
      have HC : Hid (∀ W, Below w.heap.size w W → Calls Tryz.prog 15 #[.agg (h'.cells v'), .bool p, .int .i64 ((i + 1 : Nat) : Int)] W fun o w' => o = .returned (.string X) ∧ Below W.heap.size W w') := Lib.hid (fun W hW => by rw [hX]; exact HI.out j h' k' r v' W hd hW hk')
      have HLn : Hid (∀ W, Calls Tryz.prog 24 #[.bool p, .int .i64 ((i + 1 : Nat) : Int)] W fun o w' => o = .returned (.string N) ∧ W = w') := Lib.hid (fun W => by rw [hN]; exact HLi.out (i + 1) W (by omega))
      have HE0 : Hid (T = S ++ (pcB L i false j ++ (X ++ (qcB L false j ++ outF L i false (k.drop (j + 1)) (j + 1))))) := Lib.hid (by rw [← HS.out, outF_drop L i false k j hd, hX])
      have HPc : Hid (pcB L i false j = (if 0 < j ∧ (false = false ∨ j % 2 = 0) then ⟨#[44]⟩ else ⟨#[]⟩) ++ (if false = false ∨ j % 2 = 0 then N else ⟨#[]⟩)) := Lib.hid (by rw [hN]; rfl)
      have hXs : X.size ≤ 1000000 := by
        have h1 := HT.out
        rw [← HTe.out, HE0.out, ByteArray.size_append, ByteArray.size_append, ByteArray.size_append] at h1
        omega
      have hNs : N.size ≤ 81 := by rw [hN]; exact nlB_le HLok.out (by omega)
      obtain ⟨d0, d1, d2, d3, d4, d5, d6, d7, d8⟩ := (hc'.below HB3.out).nine
      clear hLi hLj hc' hk' hd hu' hX hN
      have hi1 : (i : Int) ≤ 30 := by omega
      by_cases hj0 : j = 0
      · have hj1 : decide (0 < j) = false := by simp; omega
        have hj3 : ¬ 0 < j := by omega
        have hj4 : j % 2 = 0 := by omega
        have HNew : Hid ((S ++ N ++ X) ++ outF L i false (k.drop (j + 1)) (j + 1) = T) := Lib.hid (by rw [HE0.out, HPc.out]; simp [ByteArray.append_assoc, qcB, e_app, hj3])
        clear hj0 hj3 hj4
        go_wp2_with fail
        refine (HLn.out _).mono ?_
        rintro o w4 ⟨rfl, rfl⟩
        go_wp2_with fail
        refine (HC.out _ HB3.out).mono ?_
        rintro o w5 ⟨rfl, hb5⟩
        have HB5 := Lib.hid (below_nx HB3.out hb5)
        have HX5 := Lib.hid (HX3.out.below hb5)
        clear hb5 d0 d1 d2 d3 d4 d5 d6 d7 d8 q0 q8
        go_wp2_with fail
        go_roundw
        case rel => exact ⟨_, j + 1, rfl, by go_num, hgo, HNew, HB5.out, HX5.out⟩
        case measure => simp [intOf]; omega
      · have hj1 : decide (0 < j) = true := by simp; omega
        have hj2 : (0 : Int) < (j : Int) := by omega
        have hj3 : 0 < j := by omega
        have HNew : Hid ((S ++ ⟨#[44]⟩ ++ N ++ X) ++ outF L i false (k.drop (j + 1)) (j + 1) = T) := Lib.hid (by rw [HE0.out, HPc.out]; simp [ByteArray.append_assoc, qcB, e_app, hj3])
        clear hj0
        go_wp2_with fail
        refine (HLn.out _).mono ?_
        rintro o w4 ⟨rfl, rfl⟩
        go_wp2_with fail
        refine (HC.out _ HB3.out).mono ?_
        rintro o w5 ⟨rfl, hb5⟩
        have HB5 := Lib.hid (below_nx HB3.out hb5)
        have HX5 := Lib.hid (HX3.out.below hb5)
        clear hb5 d0 d1 d2 d3 d4 d5 d6 d7 d8 q0 q8
        go_wp2_with fail
        go_roundw
        case rel => exact ⟨_, j + 1, rfl, by go_num, hgo, HNew, HB5.out, HX5.out⟩
        case measure => simp [intOf]; omega
    · obtain rfl : j = k.len := by omega
      have HTS : Hid (S = T) := Lib.hid (by
        have e : k.drop k.len = .nil := by
          have h1 := drop_len k.len k
          cases e : k.drop k.len with
          | nil => rfl
          | cons _ _ _ => rw [e, Fo.len] at h1; omega
        rw [← HS.out, e, outF, app_e])
      have HLn : Hid (∀ W, Calls Tryz.prog 24 #[.bool p, .int .i64 (i : Int)] W fun o w' => o = .returned (.string (nlB L i)) ∧ W = w') := Lib.hid (fun W => HLi.out i W (by omega))
      have hNs : (nlB L i).size ≤ 81 := nlB_le HLok.out (by omega)
      obtain ⟨N, hN⟩ : ∃ N, N = nlB L i := ⟨_, rfl⟩
      rw [← hN] at HLn hNs HFin
      clear hN
      by_cases hkn : k = .nil
      · obtain ⟨f1, f2⟩ := HFin.out.1 hkn
        have HF := Lib.hid f1
        have hS0 : S = ⟨#[]⟩ := HTS.out.trans f2
        subst hS0
        clear f1 f2 HFin hkn
        go_wp2_with fail
        go_ret
        exact ⟨by rw [HF.out]; rfl, HB3.out⟩
      · have HF := Lib.hid (HFin.out.2 hkn)
        have hS0 : 0 < S.size := by rw [HTS.out, HTe.out]; exact HP.out hkn
        have hne : S.toList.isEmpty = false := by
          rw [ByteArray.toList_eq]
          cases e : S.data.toList with
          | nil =>
            have h1 := congrArg List.length e
            rw [Array.length_toList, List.length_nil] at h1
            have h2 : S.data.size = S.size := rfl
            omega
          | cons => rfl
        clear HFin hkn
        go_wp2_with fail
        refine (HLn.out _).mono ?_
        rintro o w4 ⟨rfl, rfl⟩
        go_wp2_with fail
        go_ret
        exact ⟨by rw [HF.out, ← HTS.out]; rfl, HB3.out⟩
set_option maxRecDepth 100000 in
set_option maxHeartbeats 3000000 in
theorem rwrite_8 (h : Hd) (k : Fo) (v : Value) (p : Bool) (i : Nat) (w : World) (hk : Kd An w v k) (hK : h.kind = 8) (hi : i ≤ 30) (hT : (outF (layOf p) i true k 0).size ≤ 1000000) (hev : true = true → k.len % 2 = 0) (hlen : k.len ≤ 300) (hpos : k ≠ .nil → 0 < (outF (layOf p) i true k 0).size)
    (hI : ∀ (j : Nat) (h' : Hd) (k' r : Fo) (v' : Value) (W : World), k.drop j = .cons h' k' r → Below w.heap.size w W → Kd An w v' k' → Calls Tryz.prog 15 #[.agg (h'.cells v'), .bool p, .int .i64 ((i + 1 : Nat) : Int)] W (WriP (layOf p) (i + 1) h' k' W)) :
    Calls Tryz.prog 15 #[.agg (h.cells v), .bool p, .int .i64 (i : Int)] w (WriP (layOf p) i h k w) := by
  obtain ⟨A, c, rfl, hc, hl, hL⟩ := hk.form
  obtain ⟨L, hLe⟩ : ∃ L, L = layOf p := ⟨_, rfl⟩
  have HLok : Hid (L.ok) := Lib.hid (by rw [hLe]; exact layOf_ok p)
  have HLk : Hid ((p = true → L.k = ⟨#[32]⟩) ∧ (p = false → L.k = ⟨#[]⟩)) := Lib.hid (by rw [hLe]; exact ⟨fun e => by subst e; rfl, fun e => by subst e; rfl⟩)
  have HLi : Hid (∀ n W, n ≤ 40 → Calls Tryz.prog 24 #[.bool p, .int .i64 ((n : Nat) : Int)] W fun o w' => o = .returned (.string (nlB L n)) ∧ W = w') := Lib.hid (fun n W hn => by rw [hLe]; exact rlines_calls p n W hn)
  rw [← hLe] at hT hI hpos ⊢
  clear hLe
  have HI := Lib.hid hI
  have HL := Lib.hid hL
  have HT := Lib.hid hT
  have HP := Lib.hid hpos
  obtain ⟨T, hTe⟩ : ∃ T, T = outF L i true k 0 := ⟨_, rfl⟩
  have HTe := Lib.hid hTe
  rcases h with ⟨kd, b, neg, dig, exp, u, wd, s⟩
  obtain rfl : kd = 8 := hK
  have HFin : Hid ((k = .nil → nodeB L i ⟨8, b, neg, dig, exp, u, wd, s⟩ k = ⟨#[123]⟩ ++ ⟨#[]⟩ ++ ⟨#[125]⟩ ∧ T = ⟨#[]⟩) ∧ (k ≠ .nil → nodeB L i ⟨8, b, neg, dig, exp, u, wd, s⟩ k = ⟨#[123]⟩ ++ (T ++ nlB L i) ++ ⟨#[125]⟩)) := Lib.hid (by
    refine ⟨fun e => ?_, fun e => ?_⟩
    · subst e
      exact ⟨rfl, hTe⟩
    · rw [hTe, outF_all L i true k e hev]
      cases k with
      | nil => exact absurd rfl e
      | cons _ _ _ => rfl)
  clear hk hL hI hc hT hpos hTe hev
  have HX := Lib.hid (Nx.new w ⟨8, b, neg, dig, exp, u, wd, s⟩ (.slice A k.len c))
  have HB := Lib.hid (below_a (Below.refl _ w) (.cells ((⟨8, b, neg, dig, exp, u, wd, s⟩ : Hd).cells (.slice A k.len c)) 27))
  simp only [Hd.cells]
  go_enter Tryz.func15, Tryz.ntmps15
  go_wp2_with fail
  go_loopw [11, 12] (fun x y wr => ∃ (S : ByteArray) (j : Nat), x = .string S ∧ y = .int .i64 j ∧ j ≤ k.len ∧ Hid (S ++ outF L i true (k.drop j) j = T) ∧ Below w.heap.size w wr ∧ Nx wr w.heap.size ⟨8, b, neg, dig, exp, u, wd, s⟩ (.slice A k.len c)) (fun _ y _ => k.len - (intOf y).toNat)
  case atStart => exact ⟨⟨#[]⟩, 0, rfl, rfl, Nat.zero_le _, Lib.hid (by rw [e_app, HTe.out]; rfl), HB.out, HX.out⟩
  case round =>
    obtain ⟨S, j, rfl, rfl, hj, HS, hb, hbx⟩ := hrel
    have HB3 := Lib.hid hb
    have HX3 := Lib.hid hbx
    obtain ⟨q0, q1, q2, q3, q4, q5, q6, q7, q8⟩ := hbx.nine
    have hSs : S.size ≤ 1000000 := by
      have h1 := HT.out
      rw [← HTe.out, ← HS.out, ByteArray.size_append] at h1
      omega
    clear hb hbx HB HX q1 q2 q3 q4 q5 q6 q7
    by_cases hgo : j < k.len
    · obtain ⟨B, o, rfl, hB, _, hLi⟩ := HL.out (by omega)
      obtain ⟨h', k', r, hd⟩ := drop_cons hgo
      have hLj := lies_drop j hLi
      rw [hd] at hLj
      obtain ⟨⟨v', hc', hk'⟩, hu', _⟩ := lies_cons.1 hLj
      obtain ⟨X, hX⟩ : ∃ X, X = nodeB L (i + 1) h' k' := ⟨_, rfl⟩
      obtain ⟨N, hN⟩ : ∃ N, N = nlB L (i + 1) := ⟨_, rfl⟩
      have HC : Hid (∀ W, Below w.heap.size w W → Calls Tryz.prog 15 #[.agg (h'.cells v'), .bool p, .int .i64 ((i + 1 : Nat) : Int)] W fun o w' => o = .returned (.string X) ∧ Below W.heap.size W w') := Lib.hid (fun W hW => by rw [hX]; exact HI.out j h' k' r v' W hd hW hk')
      have HLn : Hid (∀ W, Calls Tryz.prog 24 #[.bool p, .int .i64 ((i + 1 : Nat) : Int)] W fun o w' => o = .returned (.string N) ∧ W = w') := Lib.hid (fun W => by rw [hN]; exact HLi.out (i + 1) W (by omega))
      have HE0 : Hid (T = S ++ (pcB L i true j ++ (X ++ (qcB L true j ++ outF L i true (k.drop (j + 1)) (j + 1))))) := Lib.hid (by rw [← HS.out, outF_drop L i true k j hd, hX])
      have HPc : Hid (pcB L i true j = (if 0 < j ∧ (true = false ∨ j % 2 = 0) then ⟨#[44]⟩ else ⟨#[]⟩) ++ (if true = false ∨ j % 2 = 0 then N else ⟨#[]⟩)) := Lib.hid (by rw [hN]; rfl)
      have hXs : X.size ≤ 1000000 := by
        have h1 := HT.out
        rw [← HTe.out, HE0.out, ByteArray.size_append, ByteArray.size_append, ByteArray.size_append] at h1
        omega
      have hNs : N.size ≤ 81 := by rw [hN]; exact nlB_le HLok.out (by omega)
      obtain ⟨d0, d1, d2, d3, d4, d5, d6, d7, d8⟩ := (hc'.below HB3.out).nine
      clear hLi hLj hc' hk' hd hu' hX hN
      have hi1 : (i : Int) ≤ 30 := by omega
      rcases Nat.mod_two_eq_zero_or_one j with hpar | hpar
      · have hp2 : ((j : Int).tmod 2 == 0) = true := by rw [beq_iff_eq]; exact congrArg (fun n : Nat => (n : Int)) hpar
        have hp3 : (j : Int).tmod 2 = 0 := congrArg (fun n : Nat => (n : Int)) hpar
        have hp4 : (j : Int) % 2 = 0 := by omega
        by_cases hj0 : j = 0
        · have hj1 : decide (0 < j) = false := by simp; omega
          have hj3 : ¬ 0 < j := by omega
          cases p
          · have HK := HLk.out.2 rfl
            have HNew : Hid ((S ++ N ++ X ++ ⟨#[58]⟩) ++ outF L i true (k.drop (j + 1)) (j + 1) = T) := Lib.hid (by rw [HE0.out, HPc.out]; simp [ByteArray.append_assoc, qcB, e_app, HK, hj3, hpar])
            clear hj0 hj3
            go_wp2_with fail
            refine (HLn.out _).mono ?_
            rintro o w4 ⟨rfl, rfl⟩
            go_wp2_with fail
            refine (HC.out _ HB3.out).mono ?_
            rintro o w5 ⟨rfl, hb5⟩
            have HB5 := Lib.hid (below_nx HB3.out hb5)
            have HX5 := Lib.hid (HX3.out.below hb5)
            clear hb5 d0 d1 d2 d3 d4 d5 d6 d7 d8 q0 q8
            go_wp2_with fail
            go_roundw
            case rel => exact ⟨_, j + 1, rfl, by go_num, hgo, HNew, HB5.out, HX5.out⟩
            case measure => simp [intOf]; omega
          · have HK := HLk.out.1 rfl
            have HNew : Hid ((S ++ N ++ X ++ ⟨#[58]⟩ ++ ⟨#[32]⟩) ++ outF L i true (k.drop (j + 1)) (j + 1) = T) := Lib.hid (by rw [HE0.out, HPc.out]; simp [ByteArray.append_assoc, qcB, e_app, HK, hj3, hpar])
            clear hj0 hj3
            go_wp2_with fail
            refine (HLn.out _).mono ?_
            rintro o w4 ⟨rfl, rfl⟩
            go_wp2_with fail
            refine (HC.out _ HB3.out).mono ?_
            rintro o w5 ⟨rfl, hb5⟩
            have HB5 := Lib.hid (below_nx HB3.out hb5)
            have HX5 := Lib.hid (HX3.out.below hb5)
            clear hb5 d0 d1 d2 d3 d4 d5 d6 d7 d8 q0 q8
            go_wp2_with fail
            go_roundw
            case rel => exact ⟨_, j + 1, rfl, by go_num, hgo, HNew, HB5.out, HX5.out⟩
            case measure => simp [intOf]; omega
        · have hj1 : decide (0 < j) = true := by simp; omega
          have hj2 : (0 : Int) < (j : Int) := by omega
          have hj3 : 0 < j := by omega
          cases p
          · have HK := HLk.out.2 rfl
            have HNew : Hid ((S ++ ⟨#[44]⟩ ++ N ++ X ++ ⟨#[58]⟩) ++ outF L i true (k.drop (j + 1)) (j + 1) = T) := Lib.hid (by rw [HE0.out, HPc.out]; simp [ByteArray.append_assoc, qcB, e_app, HK, hj3, hpar])
            clear hj0
            go_wp2_with fail
            refine (HLn.out _).mono ?_
            rintro o w4 ⟨rfl, rfl⟩
            go_wp2_with fail
            refine (HC.out _ HB3.out).mono ?_
            rintro o w5 ⟨rfl, hb5⟩
            have HB5 := Lib.hid (below_nx HB3.out hb5)
            have HX5 := Lib.hid (HX3.out.below hb5)
            clear hb5 d0 d1 d2 d3 d4 d5 d6 d7 d8 q0 q8
            go_wp2_with fail
            go_roundw
            case rel => exact ⟨_, j + 1, rfl, by go_num, hgo, HNew, HB5.out, HX5.out⟩
            case measure => simp [intOf]; omega
          · have HK := HLk.out.1 rfl
            have HNew : Hid ((S ++ ⟨#[44]⟩ ++ N ++ X ++ ⟨#[58]⟩ ++ ⟨#[32]⟩) ++ outF L i true (k.drop (j + 1)) (j + 1) = T) := Lib.hid (by rw [HE0.out, HPc.out]; simp [ByteArray.append_assoc, qcB, HK, hj3, hpar])
            clear hj0
            go_wp2_with fail
            refine (HLn.out _).mono ?_
            rintro o w4 ⟨rfl, rfl⟩
            go_wp2_with fail
            refine (HC.out _ HB3.out).mono ?_
            rintro o w5 ⟨rfl, hb5⟩
            have HB5 := Lib.hid (below_nx HB3.out hb5)
            have HX5 := Lib.hid (HX3.out.below hb5)
            clear hb5 d0 d1 d2 d3 d4 d5 d6 d7 d8 q0 q8
            go_wp2_with fail
            go_roundw
            case rel => exact ⟨_, j + 1, rfl, by go_num, hgo, HNew, HB5.out, HX5.out⟩
            case measure => simp [intOf]; omega
      · have hp2 : ((j : Int).tmod 2 == 0) = false := by rw [show (j : Int).tmod 2 = ((j % 2 : Nat) : Int) from rfl, hpar]; rfl
        have hp3 : (j : Int).tmod 2 = 1 := congrArg (fun n : Nat => (n : Int)) hpar
        have hp4 : (j : Int) % 2 = 1 := by omega
        have hj1 : decide (0 < j) = true := by simp; omega
        have hj2 : (0 : Int) < (j : Int) := by omega
        have hj3 : 0 < j := by omega
        have HNew : Hid ((S ++ X) ++ outF L i true (k.drop (j + 1)) (j + 1) = T) := Lib.hid (by rw [HE0.out, HPc.out]; simp [ByteArray.append_assoc, qcB, e_app, app_e, hpar])
        clear hj3
        go_wp2_with fail
        refine (HC.out _ HB3.out).mono ?_
        rintro o w5 ⟨rfl, hb5⟩
        have HB5 := Lib.hid (below_nx HB3.out hb5)
        have HX5 := Lib.hid (HX3.out.below hb5)
        clear hb5 d0 d1 d2 d3 d4 d5 d6 d7 d8 q0 q8
        go_wp2_with fail
        go_roundw
        case rel => exact ⟨_, j + 1, rfl, by go_num, hgo, HNew, HB5.out, HX5.out⟩
        case measure => simp [intOf]; omega
    · obtain rfl : j = k.len := by omega
      have HTS : Hid (S = T) := Lib.hid (by
        have e : k.drop k.len = .nil := by
          have h1 := drop_len k.len k
          cases e : k.drop k.len with
          | nil => rfl
          | cons _ _ _ => rw [e, Fo.len] at h1; omega
        rw [← HS.out, e, outF, app_e])
      have HLn : Hid (∀ W, Calls Tryz.prog 24 #[.bool p, .int .i64 (i : Int)] W fun o w' => o = .returned (.string (nlB L i)) ∧ W = w') := Lib.hid (fun W => HLi.out i W (by omega))
      have hNs : (nlB L i).size ≤ 81 := nlB_le HLok.out (by omega)
      obtain ⟨N, hN⟩ : ∃ N, N = nlB L i := ⟨_, rfl⟩
      rw [← hN] at HLn hNs HFin
      clear hN
      by_cases hkn : k = .nil
      · obtain ⟨f1, f2⟩ := HFin.out.1 hkn
        have HF := Lib.hid f1
        have hS0 : S = ⟨#[]⟩ := HTS.out.trans f2
        subst hS0
        clear f1 f2 HFin hkn
        go_wp2_with fail
        go_ret
        exact ⟨by rw [HF.out]; rfl, HB3.out⟩
      · have HF := Lib.hid (HFin.out.2 hkn)
        have hS0 : 0 < S.size := by rw [HTS.out, HTe.out]; exact HP.out hkn
        have hne : S.toList.isEmpty = false := by
          rw [ByteArray.toList_eq]
          cases e : S.data.toList with
          | nil =>
            have h1 := congrArg List.length e
            rw [Array.length_toList, List.length_nil] at h1
            have h2 : S.data.size = S.size := rfl
            omega
          | cons => rfl
        clear HFin hkn
        go_wp2_with fail
        refine (HLn.out _).mono ?_
        rintro o w4 ⟨rfl, rfl⟩
        go_wp2_with fail
        go_ret
        exact ⟨by rw [HF.out, ← HTS.out]; rfl, HB3.out⟩
end Go.Proofs.YtomociaidccfmaaGreatDoor
