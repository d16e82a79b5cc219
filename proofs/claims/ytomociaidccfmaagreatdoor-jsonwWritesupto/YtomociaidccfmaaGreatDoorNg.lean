/- The document's own: own, for each kind. The document's own: own, of maps. -/
import Derived.Test.YtomociaidccfmaaGreatDoorNe
import Derived.Test.YtomociaidccfmaaGreatDoorYA
import Derived.Test.YtomociaidccfmaaGreatDoorV3
import Derived.Test.YtomociaidccfmaaGreatDoorMp
import Derived.Deep.RegionHeld3

namespace Go.Proofs.YtomociaidccfmaaGreatDoor
open Go.RowKit

set_option maxRecDepth 100000 in
set_option maxHeartbeats 1000000 in
theorem rOwn_1 (b neg : Bool) (dig : ByteArray) (exp : Int) (u : Nat) (wd : Int) (s : ByteArray) (k : Fo) (v : Value) (w : World) (hk : Kd An w v k) : Calls Tryz.prog 55 #[.agg ((⟨1, b, neg, dig, exp, u, wd, s⟩ : Hd).cells v)] w (BolP (o_isNull ⟨1, b, neg, dig, exp, u, wd, s⟩ k.len) w) := by
  obtain ⟨A, c, rfl, _, _, _⟩ := hk.form
  have HK := Lib.hid hk
  clear hk
  by_cases h0 : k.len = 0
  · obtain rfl := len_nil h0
    simp only [Fo.len] at HK ⊢
    clear h0
    obtain ⟨R, hR⟩ : ∃ R, R = sameH ⟨1, b, neg, dig, exp, u, wd, s⟩ ⟨1, false, false, ⟨#[]⟩, 0, 0, 0, ⟨#[]⟩⟩ := ⟨_, rfl⟩
    have HO : Hid (∀ W, Below w.heap.size w W → Calls Tryz.prog 89 #[.agg #[.int .i64 1, .bool b, .bool neg, .string dig, .int .i64 exp, .int .u64 (u : Int), .int .i64 wd, .string s, .slice A 0 c], .agg #[.int .i64 0, .bool false, .bool false, .string ⟨#[]⟩, .int .i64 0, .int .u64 0, .int .i64 0, .string ⟨#[]⟩, .slice none 0 0]] W (BolP R W)) := Lib.hid (fun W hW => by
      rw [hR]
      exact rOnly_calls ⟨1, b, neg, dig, exp, u, wd, s⟩ ⟨0, false, false, ⟨#[]⟩, 0, 0, 0, ⟨#[]⟩⟩ _ _ none 0 0 W (HK.out.below hW))
    have HX := Lib.hid (Nx.new w ⟨1, b, neg, dig, exp, u, wd, s⟩ (.slice A 0 c))
    have HB := Lib.hid (below_a (Below.refl _ w) (.cells ((⟨1, b, neg, dig, exp, u, wd, s⟩ : Hd).cells (.slice A 0 c)) 27))
    obtain ⟨y0, y1, y2, y3, y4, y5, y6, y7, y8⟩ := HX.out.nine

    simp only [Hd.cells]
    go_enter Tryz.func55, Tryz.ntmps55
    go_wp2_with fail
    refine (HO.out _ HB.out).mono ?_
    rintro o w1 ⟨rfl, hb1⟩
    replace HB := Lib.hid (below_nx HB.out hb1)
    replace HX := Lib.hid (HX.out.below hb1)
    clear hb1 y0 y1 y2 y3 y4 y5 y6 y7 y8
    obtain ⟨y0, y1, y2, y3, y4, y5, y6, y7, y8⟩ := HX.out.nine
    have HF : Hid (o_isNull ⟨1, b, neg, dig, exp, u, wd, s⟩ 0 = R) := Lib.hid (by rw [o_isNull, j_isNull, hR]; simp)
    clear hR
    go_wp2_with fail
    go_ret
    exact ⟨by rw [HF.out]; first | rfl | (show Ending.returned (Value.bool _) = Ending.returned (Value.bool _); simp [*]), HB.out⟩
  · have hne : ¬ (k.len : Int) = 0 := by omega
    have HF : Hid (o_isNull ⟨1, b, neg, dig, exp, u, wd, s⟩ k.len = false) := Lib.hid (by simp [o_isNull, j_isNull, h0])
    clear HK
    have HX := Lib.hid (Nx.new w ⟨1, b, neg, dig, exp, u, wd, s⟩ (.slice A k.len c))
    have HB := Lib.hid (below_a (Below.refl _ w) (.cells ((⟨1, b, neg, dig, exp, u, wd, s⟩ : Hd).cells (.slice A k.len c)) 27))
    obtain ⟨y0, y1, y2, y3, y4, y5, y6, y7, y8⟩ := HX.out.nine

    simp only [Hd.cells]
    go_enter Tryz.func55, Tryz.ntmps55
    go_wp2_with fail
    go_ret
    exact ⟨by rw [HF.out]; first | rfl | (show Ending.returned (Value.bool _) = Ending.returned (Value.bool _); simp [*]), HB.out⟩
set_option maxRecDepth 100000 in
set_option maxHeartbeats 1000000 in
theorem rOwn_2 (b neg : Bool) (dig : ByteArray) (exp : Int) (u : Nat) (wd : Int) (s : ByteArray) (k : Fo) (v : Value) (w : World) (hk : Kd An w v k) : Calls Tryz.prog 55 #[.agg ((⟨2, b, neg, dig, exp, u, wd, s⟩ : Hd).cells v)] w (BolP (o_isBool ⟨2, b, neg, dig, exp, u, wd, s⟩ k.len) w) := by
  obtain ⟨A, c, rfl, _, _, _⟩ := hk.form
  have HK := Lib.hid hk
  clear hk
  by_cases h0 : k.len = 0
  · obtain rfl := len_nil h0
    simp only [Fo.len] at HK ⊢
    clear h0
    obtain ⟨R, hR⟩ : ∃ R, R = sameH ⟨2, b, neg, dig, exp, u, wd, s⟩ ⟨2, b, false, ⟨#[]⟩, 0, 0, 0, ⟨#[]⟩⟩ := ⟨_, rfl⟩
    have HO : Hid (∀ W, Below w.heap.size w W → Calls Tryz.prog 89 #[.agg #[.int .i64 2, .bool b, .bool neg, .string dig, .int .i64 exp, .int .u64 (u : Int), .int .i64 wd, .string s, .slice A 0 c], .agg #[.int .i64 0, .bool b, .bool false, .string ⟨#[]⟩, .int .i64 0, .int .u64 0, .int .i64 0, .string ⟨#[]⟩, .slice none 0 0]] W (BolP R W)) := Lib.hid (fun W hW => by
      rw [hR]
      exact rOnly_calls ⟨2, b, neg, dig, exp, u, wd, s⟩ ⟨0, b, false, ⟨#[]⟩, 0, 0, 0, ⟨#[]⟩⟩ _ _ none 0 0 W (HK.out.below hW))
    have HX := Lib.hid (Nx.new w ⟨2, b, neg, dig, exp, u, wd, s⟩ (.slice A 0 c))
    have HB := Lib.hid (below_a (Below.refl _ w) (.cells ((⟨2, b, neg, dig, exp, u, wd, s⟩ : Hd).cells (.slice A 0 c)) 27))
    obtain ⟨y0, y1, y2, y3, y4, y5, y6, y7, y8⟩ := HX.out.nine

    simp only [Hd.cells]
    go_enter Tryz.func55, Tryz.ntmps55
    go_wp2_with fail
    refine (HO.out _ HB.out).mono ?_
    rintro o w1 ⟨rfl, hb1⟩
    replace HB := Lib.hid (below_nx HB.out hb1)
    replace HX := Lib.hid (HX.out.below hb1)
    clear hb1 y0 y1 y2 y3 y4 y5 y6 y7 y8
    obtain ⟨y0, y1, y2, y3, y4, y5, y6, y7, y8⟩ := HX.out.nine
    have HF : Hid (o_isBool ⟨2, b, neg, dig, exp, u, wd, s⟩ 0 = R) := Lib.hid (by rw [o_isBool, j_isBool, hR]; simp)
    clear hR
    go_wp2_with fail
    go_ret
    exact ⟨by rw [HF.out]; first | rfl | (show Ending.returned (Value.bool _) = Ending.returned (Value.bool _); simp [*]), HB.out⟩
  · have hne : ¬ (k.len : Int) = 0 := by omega
    have HF : Hid (o_isBool ⟨2, b, neg, dig, exp, u, wd, s⟩ k.len = false) := Lib.hid (by simp [o_isBool, j_isBool, h0])
    clear HK
    have HX := Lib.hid (Nx.new w ⟨2, b, neg, dig, exp, u, wd, s⟩ (.slice A k.len c))
    have HB := Lib.hid (below_a (Below.refl _ w) (.cells ((⟨2, b, neg, dig, exp, u, wd, s⟩ : Hd).cells (.slice A k.len c)) 27))
    obtain ⟨y0, y1, y2, y3, y4, y5, y6, y7, y8⟩ := HX.out.nine

    simp only [Hd.cells]
    go_enter Tryz.func55, Tryz.ntmps55
    go_wp2_with fail
    go_ret
    exact ⟨by rw [HF.out]; first | rfl | (show Ending.returned (Value.bool _) = Ending.returned (Value.bool _); simp [*]), HB.out⟩
set_option maxRecDepth 100000 in
set_option maxHeartbeats 1000000 in
theorem rOwn_3 (b neg : Bool) (dig : ByteArray) (exp : Int) (u : Nat) (wd : Int) (s : ByteArray) (k : Fo) (v : Value) (w : World) (hk : Kd An w v k) : Calls Tryz.prog 55 #[.agg ((⟨3, b, neg, dig, exp, u, wd, s⟩ : Hd).cells v)] w (BolP (o_isNum ⟨3, b, neg, dig, exp, u, wd, s⟩ k.len) w) := by
  obtain ⟨A, c, rfl, _, _, _⟩ := hk.form
  have HK := Lib.hid hk
  clear hk
  by_cases h0 : k.len = 0
  · obtain rfl := len_nil h0
    simp only [Fo.len] at HK ⊢
    clear h0
    obtain ⟨R, hR⟩ : ∃ R, R = sameH ⟨3, b, neg, dig, exp, u, wd, s⟩ ⟨3, false, neg, dig, exp, 0, 0, ⟨#[]⟩⟩ := ⟨_, rfl⟩
    have HO : Hid (∀ W, Below w.heap.size w W → Calls Tryz.prog 89 #[.agg #[.int .i64 3, .bool b, .bool neg, .string dig, .int .i64 exp, .int .u64 (u : Int), .int .i64 wd, .string s, .slice A 0 c], .agg #[.int .i64 0, .bool false, .bool neg, .string dig, .int .i64 exp, .int .u64 0, .int .i64 0, .string ⟨#[]⟩, .slice none 0 0]] W (BolP R W)) := Lib.hid (fun W hW => by
      rw [hR]
      exact rOnly_calls ⟨3, b, neg, dig, exp, u, wd, s⟩ ⟨0, false, neg, dig, exp, 0, 0, ⟨#[]⟩⟩ _ _ none 0 0 W (HK.out.below hW))
    have HX := Lib.hid (Nx.new w ⟨3, b, neg, dig, exp, u, wd, s⟩ (.slice A 0 c))
    have HB := Lib.hid (below_a (Below.refl _ w) (.cells ((⟨3, b, neg, dig, exp, u, wd, s⟩ : Hd).cells (.slice A 0 c)) 27))
    obtain ⟨y0, y1, y2, y3, y4, y5, y6, y7, y8⟩ := HX.out.nine

    simp only [Hd.cells]
    go_enter Tryz.func55, Tryz.ntmps55
    go_wp2_with fail
    refine (HO.out _ HB.out).mono ?_
    rintro o w1 ⟨rfl, hb1⟩
    replace HB := Lib.hid (below_nx HB.out hb1)
    replace HX := Lib.hid (HX.out.below hb1)
    clear hb1 y0 y1 y2 y3 y4 y5 y6 y7 y8
    obtain ⟨y0, y1, y2, y3, y4, y5, y6, y7, y8⟩ := HX.out.nine
    obtain ⟨D, hD⟩ : ∃ D, D = rightD neg dig.data.toList exp := ⟨_, rfl⟩
    have HRt : Hid (∀ W, Calls Tryz.prog 40 #[.agg #[.bool neg, .string dig, .int .i64 exp]] W (BoolP D W)) := Lib.hid (fun W => by rw [hD]; exact rRight_p neg dig exp W)
    have HF : Hid (o_isNum ⟨3, b, neg, dig, exp, u, wd, s⟩ 0 = (R && D)) := Lib.hid (by rw [o_isNum, j_isNum, hR, hD]; simp)
    clear hR hD
    cases R with
    | true =>
      go_wp2_with fail
      refine (HRt.out _).mono ?_
      rintro o w2 ⟨rfl, hb2⟩
      replace HB := Lib.hid (below_nx HB.out hb2)
      clear hb2
      go_wp2_with fail
      go_ret
      exact ⟨by rw [HF.out]; first | rfl | (show Ending.returned (Value.bool _) = Ending.returned (Value.bool _); simp [*]), HB.out⟩
    | false =>
      go_wp2_with fail
      go_ret
      exact ⟨by rw [HF.out]; first | rfl | (show Ending.returned (Value.bool _) = Ending.returned (Value.bool _); simp [*]), HB.out⟩
  · have hne : ¬ (k.len : Int) = 0 := by omega
    have HF : Hid (o_isNum ⟨3, b, neg, dig, exp, u, wd, s⟩ k.len = false) := Lib.hid (by simp [o_isNum, j_isNum, h0])
    clear HK
    have HX := Lib.hid (Nx.new w ⟨3, b, neg, dig, exp, u, wd, s⟩ (.slice A k.len c))
    have HB := Lib.hid (below_a (Below.refl _ w) (.cells ((⟨3, b, neg, dig, exp, u, wd, s⟩ : Hd).cells (.slice A k.len c)) 27))
    obtain ⟨y0, y1, y2, y3, y4, y5, y6, y7, y8⟩ := HX.out.nine

    simp only [Hd.cells]
    go_enter Tryz.func55, Tryz.ntmps55
    go_wp2_with fail
    go_ret
    exact ⟨by rw [HF.out]; first | rfl | (show Ending.returned (Value.bool _) = Ending.returned (Value.bool _); simp [*]), HB.out⟩
set_option maxRecDepth 100000 in
set_option maxHeartbeats 1000000 in
theorem rOwn_6 (b neg : Bool) (dig : ByteArray) (exp : Int) (u : Nat) (wd : Int) (s : ByteArray) (k : Fo) (v : Value) (w : World) (hk : Kd An w v k) : Calls Tryz.prog 55 #[.agg ((⟨6, b, neg, dig, exp, u, wd, s⟩ : Hd).cells v)] w (BolP (o_isBytes ⟨6, b, neg, dig, exp, u, wd, s⟩ k.len) w) := by
  obtain ⟨A, c, rfl, _, _, _⟩ := hk.form
  have HK := Lib.hid hk
  clear hk
  by_cases h0 : k.len = 0
  · obtain rfl := len_nil h0
    simp only [Fo.len] at HK ⊢
    clear h0
    obtain ⟨R, hR⟩ : ∃ R, R = sameH ⟨6, b, neg, dig, exp, u, wd, s⟩ ⟨6, false, false, ⟨#[]⟩, 0, 0, 0, s⟩ := ⟨_, rfl⟩
    have HO : Hid (∀ W, Below w.heap.size w W → Calls Tryz.prog 89 #[.agg #[.int .i64 6, .bool b, .bool neg, .string dig, .int .i64 exp, .int .u64 (u : Int), .int .i64 wd, .string s, .slice A 0 c], .agg #[.int .i64 0, .bool false, .bool false, .string ⟨#[]⟩, .int .i64 0, .int .u64 0, .int .i64 0, .string s, .slice none 0 0]] W (BolP R W)) := Lib.hid (fun W hW => by
      rw [hR]
      exact rOnly_calls ⟨6, b, neg, dig, exp, u, wd, s⟩ ⟨0, false, false, ⟨#[]⟩, 0, 0, 0, s⟩ _ _ none 0 0 W (HK.out.below hW))
    have HX := Lib.hid (Nx.new w ⟨6, b, neg, dig, exp, u, wd, s⟩ (.slice A 0 c))
    have HB := Lib.hid (below_a (Below.refl _ w) (.cells ((⟨6, b, neg, dig, exp, u, wd, s⟩ : Hd).cells (.slice A 0 c)) 27))
    obtain ⟨y0, y1, y2, y3, y4, y5, y6, y7, y8⟩ := HX.out.nine

    simp only [Hd.cells]
    go_enter Tryz.func55, Tryz.ntmps55
    go_wp2_with fail
    refine (HO.out _ HB.out).mono ?_
    rintro o w1 ⟨rfl, hb1⟩
    replace HB := Lib.hid (below_nx HB.out hb1)
    replace HX := Lib.hid (HX.out.below hb1)
    clear hb1 y0 y1 y2 y3 y4 y5 y6 y7 y8
    obtain ⟨y0, y1, y2, y3, y4, y5, y6, y7, y8⟩ := HX.out.nine
    have HF : Hid (o_isBytes ⟨6, b, neg, dig, exp, u, wd, s⟩ 0 = (R && decide (s.size ≤ 400))) := Lib.hid (by rw [o_isBytes, j_isBytes, hR]; simp)
    clear hR
    by_cases hs : s.size ≤ 400
    · have hsi : (s.size : Int) ≤ 400 := by omega
      rw [decide_eq_true hs] at HF
      cases R with
      | true =>
        go_wp2_with fail
        go_ret
        exact ⟨by rw [HF.out]; first | rfl | (show Ending.returned (Value.bool _) = Ending.returned (Value.bool _); simp [*]), HB.out⟩
      | false =>
        go_wp2_with fail
        go_ret
        exact ⟨by rw [HF.out]; first | rfl | (show Ending.returned (Value.bool _) = Ending.returned (Value.bool _); simp [*]), HB.out⟩
    · have hsi : ¬ (s.size : Int) ≤ 400 := by omega
      rw [decide_eq_false hs] at HF
      cases R with
      | true =>
        go_wp2_with fail
        go_ret
        exact ⟨by rw [HF.out]; first | rfl | (show Ending.returned (Value.bool _) = Ending.returned (Value.bool _); simp [*]), HB.out⟩
      | false =>
        go_wp2_with fail
        go_ret
        exact ⟨by rw [HF.out]; first | rfl | (show Ending.returned (Value.bool _) = Ending.returned (Value.bool _); simp [*]), HB.out⟩
  · have hne : ¬ (k.len : Int) = 0 := by omega
    have HF : Hid (o_isBytes ⟨6, b, neg, dig, exp, u, wd, s⟩ k.len = false) := Lib.hid (by simp [o_isBytes, j_isBytes, h0])
    clear HK
    have HX := Lib.hid (Nx.new w ⟨6, b, neg, dig, exp, u, wd, s⟩ (.slice A k.len c))
    have HB := Lib.hid (below_a (Below.refl _ w) (.cells ((⟨6, b, neg, dig, exp, u, wd, s⟩ : Hd).cells (.slice A k.len c)) 27))
    obtain ⟨y0, y1, y2, y3, y4, y5, y6, y7, y8⟩ := HX.out.nine

    simp only [Hd.cells]
    go_enter Tryz.func55, Tryz.ntmps55
    go_wp2_with fail
    go_ret
    exact ⟨by rw [HF.out]; first | rfl | (show Ending.returned (Value.bool _) = Ending.returned (Value.bool _); simp [*]), HB.out⟩
set_option maxRecDepth 100000 in
set_option maxHeartbeats 1000000 in
theorem rOwn_5 (b neg : Bool) (dig : ByteArray) (exp : Int) (u : Nat) (wd : Int) (s : ByteArray) (k : Fo) (v : Value) (w : World) (hk : Kd An w v k) (hT : ∀ W, Below w.heap.size w W → Calls Tryz.prog 43 #[.string s] W (BolP (utfW s 0) W)) : Calls Tryz.prog 55 #[.agg ((⟨5, b, neg, dig, exp, u, wd, s⟩ : Hd).cells v)] w (BolP (o_isText ⟨5, b, neg, dig, exp, u, wd, s⟩ k.len) w) := by
  obtain ⟨A, c, rfl, _, _, _⟩ := hk.form
  have HK := Lib.hid hk
  clear hk
  by_cases h0 : k.len = 0
  · obtain rfl := len_nil h0
    simp only [Fo.len] at HK ⊢
    clear h0
    obtain ⟨R, hR⟩ : ∃ R, R = sameH ⟨5, b, neg, dig, exp, u, wd, s⟩ ⟨5, false, false, ⟨#[]⟩, 0, 0, 0, s⟩ := ⟨_, rfl⟩
    have HO : Hid (∀ W, Below w.heap.size w W → Calls Tryz.prog 89 #[.agg #[.int .i64 5, .bool b, .bool neg, .string dig, .int .i64 exp, .int .u64 (u : Int), .int .i64 wd, .string s, .slice A 0 c], .agg #[.int .i64 0, .bool false, .bool false, .string ⟨#[]⟩, .int .i64 0, .int .u64 0, .int .i64 0, .string s, .slice none 0 0]] W (BolP R W)) := Lib.hid (fun W hW => by
      rw [hR]
      exact rOnly_calls ⟨5, b, neg, dig, exp, u, wd, s⟩ ⟨0, false, false, ⟨#[]⟩, 0, 0, 0, s⟩ _ _ none 0 0 W (HK.out.below hW))
    have HX := Lib.hid (Nx.new w ⟨5, b, neg, dig, exp, u, wd, s⟩ (.slice A 0 c))
    have HB := Lib.hid (below_a (Below.refl _ w) (.cells ((⟨5, b, neg, dig, exp, u, wd, s⟩ : Hd).cells (.slice A 0 c)) 27))
    obtain ⟨y0, y1, y2, y3, y4, y5, y6, y7, y8⟩ := HX.out.nine
    obtain ⟨U, hU⟩ : ∃ U, U = utfW s 0 := ⟨_, rfl⟩
    have HT : Hid (∀ W, Below w.heap.size w W → Calls Tryz.prog 43 #[.string s] W (BolP U W)) := Lib.hid (by rw [hU]; exact hT)
    clear hT
    simp only [Hd.cells]
    go_enter Tryz.func55, Tryz.ntmps55
    go_wp2_with fail
    refine (HO.out _ HB.out).mono ?_
    rintro o w1 ⟨rfl, hb1⟩
    replace HB := Lib.hid (below_nx HB.out hb1)
    replace HX := Lib.hid (HX.out.below hb1)
    clear hb1 y0 y1 y2 y3 y4 y5 y6 y7 y8
    obtain ⟨y0, y1, y2, y3, y4, y5, y6, y7, y8⟩ := HX.out.nine
    have HF : Hid (o_isText ⟨5, b, neg, dig, exp, u, wd, s⟩ 0 = (R && decide (s.size ≤ 400) && U)) := Lib.hid (by rw [o_isText, o_isBytes, j_isBytes, hR, hU]; simp)
    clear hR hU
    by_cases hs : s.size ≤ 400
    · have hsi : (s.size : Int) ≤ 400 := by omega
      rw [decide_eq_true hs] at HF
      cases R with
      | true =>
        go_wp2_with fail
        refine (HT.out _ HB.out).mono ?_
        rintro o w2 ⟨rfl, hb2⟩
        replace HB := Lib.hid (below_nx HB.out hb2)
        clear hb2
        go_wp2_with fail
        go_ret
        exact ⟨by rw [HF.out]; first | rfl | (show Ending.returned (Value.bool _) = Ending.returned (Value.bool _); simp [*]), HB.out⟩
      | false =>
        go_wp2_with fail
        go_ret
        exact ⟨by rw [HF.out]; first | rfl | (show Ending.returned (Value.bool _) = Ending.returned (Value.bool _); simp [*]), HB.out⟩
    · have hsi : ¬ (s.size : Int) ≤ 400 := by omega
      rw [decide_eq_false hs, Bool.and_false, Bool.false_and] at HF
      cases R with
      | true =>
        go_wp2_with fail
        go_ret
        exact ⟨by rw [HF.out]; first | rfl | (show Ending.returned (Value.bool _) = Ending.returned (Value.bool _); simp [*]), HB.out⟩
      | false =>
        go_wp2_with fail
        go_ret
        exact ⟨by rw [HF.out]; first | rfl | (show Ending.returned (Value.bool _) = Ending.returned (Value.bool _); simp [*]), HB.out⟩
  · have hne : ¬ (k.len : Int) = 0 := by omega
    have HF : Hid (o_isText ⟨5, b, neg, dig, exp, u, wd, s⟩ k.len = false) := Lib.hid (by simp [o_isText, o_isBytes, j_isBytes, h0])
    clear HK
    have HX := Lib.hid (Nx.new w ⟨5, b, neg, dig, exp, u, wd, s⟩ (.slice A k.len c))
    have HB := Lib.hid (below_a (Below.refl _ w) (.cells ((⟨5, b, neg, dig, exp, u, wd, s⟩ : Hd).cells (.slice A k.len c)) 27))
    obtain ⟨y0, y1, y2, y3, y4, y5, y6, y7, y8⟩ := HX.out.nine
    obtain ⟨U, hU⟩ : ∃ U, U = utfW s 0 := ⟨_, rfl⟩
    have HT : Hid (∀ W, Below w.heap.size w W → Calls Tryz.prog 43 #[.string s] W (BolP U W)) := Lib.hid (by rw [hU]; exact hT)
    clear hT
    simp only [Hd.cells]
    go_enter Tryz.func55, Tryz.ntmps55
    go_wp2_with fail
    go_ret
    exact ⟨by rw [HF.out]; first | rfl | (show Ending.returned (Value.bool _) = Ending.returned (Value.bool _); simp [*]), HB.out⟩
set_option maxRecDepth 100000 in
set_option maxHeartbeats 1000000 in
theorem rOwn_7 (b neg : Bool) (dig : ByteArray) (exp : Int) (u : Nat) (wd : Int) (s : ByteArray) (k : Fo) (v : Value) (w : World) (hk : Kd An w v k) : Calls Tryz.prog 55 #[.agg ((⟨7, b, neg, dig, exp, u, wd, s⟩ : Hd).cells v)] w (BolP (o_isArray ⟨7, b, neg, dig, exp, u, wd, s⟩ k.len) w) := by
  obtain ⟨A, c, rfl, _, _, _⟩ := hk.form
  have HK := Lib.hid hk
  clear hk
  obtain ⟨R, hR⟩ : ∃ R, R = sameH ⟨7, b, neg, dig, exp, u, wd, s⟩ ⟨7, false, false, ⟨#[]⟩, 0, 0, 0, ⟨#[]⟩⟩ := ⟨_, rfl⟩
  have HO : Hid (∀ W, Below w.heap.size w W → Calls Tryz.prog 89 #[.agg #[.int .i64 7, .bool b, .bool neg, .string dig, .int .i64 exp, .int .u64 (u : Int), .int .i64 wd, .string s, .slice A k.len c], .agg #[.int .i64 0, .bool false, .bool false, .string ⟨#[]⟩, .int .i64 0, .int .u64 0, .int .i64 0, .string ⟨#[]⟩, .slice none 0 0]] W (BolP R W)) := Lib.hid (fun W hW => by
    rw [hR]
    exact rOnly_calls ⟨7, b, neg, dig, exp, u, wd, s⟩ ⟨0, false, false, ⟨#[]⟩, 0, 0, 0, ⟨#[]⟩⟩ _ _ none 0 0 W (HK.out.below hW))
  have HX := Lib.hid (Nx.new w ⟨7, b, neg, dig, exp, u, wd, s⟩ (.slice A k.len c))
  have HB := Lib.hid (below_a (Below.refl _ w) (.cells ((⟨7, b, neg, dig, exp, u, wd, s⟩ : Hd).cells (.slice A k.len c)) 27))
  obtain ⟨y0, y1, y2, y3, y4, y5, y6, y7, y8⟩ := HX.out.nine
  simp only [Hd.cells]
  go_enter Tryz.func55, Tryz.ntmps55
  go_wp2_with fail
  refine (HO.out _ HB.out).mono ?_
  rintro o w1 ⟨rfl, hb1⟩
  replace HB := Lib.hid (below_nx HB.out hb1)
  replace HX := Lib.hid (HX.out.below hb1)
  clear hb1 y0 y1 y2 y3 y4 y5 y6 y7 y8
  obtain ⟨y0, y1, y2, y3, y4, y5, y6, y7, y8⟩ := HX.out.nine
  have HF : Hid (o_isArray ⟨7, b, neg, dig, exp, u, wd, s⟩ k.len = R) := Lib.hid (by rw [o_isArray, j_isArray, hR]; simp)
  clear hR
  go_wp2_with fail
  go_ret
  exact ⟨by rw [HF.out]; first | rfl | (show Ending.returned (Value.bool _) = Ending.returned (Value.bool _); simp [*]), HB.out⟩
set_option maxRecDepth 100000 in
set_option maxHeartbeats 1000000 in
theorem rOwn_9 (b neg : Bool) (dig : ByteArray) (exp : Int) (u : Nat) (wd : Int) (s : ByteArray) (k : Fo) (v : Value) (w : World) (hk : Kd An w v k) : Calls Tryz.prog 55 #[.agg ((⟨9, b, neg, dig, exp, u, wd, s⟩ : Hd).cells v)] w (BolP (o_isTag ⟨9, b, neg, dig, exp, u, wd, s⟩ k.len) w) := by
  obtain ⟨A, c, rfl, _, _, _⟩ := hk.form
  have HK := Lib.hid hk
  clear hk
  by_cases h1 : k.len = 1
  · have h1i : (k.len : Int) = 1 := by omega
    obtain ⟨R, hR⟩ : ∃ R, R = sameH ⟨9, b, neg, dig, exp, u, wd, s⟩ ⟨9, false, false, ⟨#[]⟩, 0, u, 0, ⟨#[]⟩⟩ := ⟨_, rfl⟩
    have HO : Hid (∀ W, Below w.heap.size w W → Calls Tryz.prog 89 #[.agg #[.int .i64 9, .bool b, .bool neg, .string dig, .int .i64 exp, .int .u64 (u : Int), .int .i64 wd, .string s, .slice A k.len c], .agg #[.int .i64 0, .bool false, .bool false, .string ⟨#[]⟩, .int .i64 0, .int .u64 (u : Int), .int .i64 0, .string ⟨#[]⟩, .slice none 0 0]] W (BolP R W)) := Lib.hid (fun W hW => by
      rw [hR]
      exact rOnly_calls ⟨9, b, neg, dig, exp, u, wd, s⟩ ⟨0, false, false, ⟨#[]⟩, 0, u, 0, ⟨#[]⟩⟩ _ _ none 0 0 W (HK.out.below hW))
    have HX := Lib.hid (Nx.new w ⟨9, b, neg, dig, exp, u, wd, s⟩ (.slice A k.len c))
    have HB := Lib.hid (below_a (Below.refl _ w) (.cells ((⟨9, b, neg, dig, exp, u, wd, s⟩ : Hd).cells (.slice A k.len c)) 27))
    obtain ⟨y0, y1, y2, y3, y4, y5, y6, y7, y8⟩ := HX.out.nine
    have HF : Hid (o_isTag ⟨9, b, neg, dig, exp, u, wd, s⟩ k.len = R) := Lib.hid (by rw [o_isTag, j_isTag, hR]; simp [h1])
    clear hR
    rw [HF.out]
    clear HF
    rw [h1] at HO HB HX
    rw [h1] at y8
    rw [h1]
    clear h1i h1 HK
    simp only [Hd.cells]
    go_enter Tryz.func55, Tryz.ntmps55
    go_wp2_with fail
    refine (HO.out _ HB.out).mono ?_
    rintro o w1 ⟨rfl, hb1⟩
    replace HB := Lib.hid (below_nx HB.out hb1)
    replace HX := Lib.hid (HX.out.below hb1)
    clear hb1 y0 y1 y2 y3 y4 y5 y6 y7 y8
    obtain ⟨y0, y1, y2, y3, y4, y5, y6, y7, y8⟩ := HX.out.nine
    go_wp2_with fail
    go_ret
    exact ⟨rfl, HB.out⟩
  · have h1i : ¬ (k.len : Int) = 1 := by omega
    have HF : Hid (o_isTag ⟨9, b, neg, dig, exp, u, wd, s⟩ k.len = false) := Lib.hid (by simp [o_isTag, j_isTag, h1])
    have HX := Lib.hid (Nx.new w ⟨9, b, neg, dig, exp, u, wd, s⟩ (.slice A k.len c))
    have HB := Lib.hid (below_a (Below.refl _ w) (.cells ((⟨9, b, neg, dig, exp, u, wd, s⟩ : Hd).cells (.slice A k.len c)) 27))
    obtain ⟨y0, y1, y2, y3, y4, y5, y6, y7, y8⟩ := HX.out.nine
    simp only [Hd.cells]
    go_enter Tryz.func55, Tryz.ntmps55
    go_wp2_with fail
    go_ret
    exact ⟨by rw [HF.out]; first | rfl | (show Ending.returned (Value.bool _) = Ending.returned (Value.bool _); simp [*]), HB.out⟩
set_option maxRecDepth 100000 in
set_option maxHeartbeats 1000000 in
theorem rOwn_10 (b neg : Bool) (dig : ByteArray) (exp : Int) (u : Nat) (wd : Int) (s : ByteArray) (k : Fo) (v : Value) (w : World) (hk : Kd An w v k) : Calls Tryz.prog 55 #[.agg ((⟨10, b, neg, dig, exp, u, wd, s⟩ : Hd).cells v)] w (BolP (o_isSimple ⟨10, b, neg, dig, exp, u, wd, s⟩ k.len) w) := by
  obtain ⟨A, c, rfl, _, _, _⟩ := hk.form
  have HK := Lib.hid hk
  clear hk
  by_cases h0 : k.len = 0
  · obtain rfl := len_nil h0
    simp only [Fo.len] at HK ⊢
    clear h0
    obtain ⟨R, hR⟩ : ∃ R, R = sameH ⟨10, b, neg, dig, exp, u, wd, s⟩ ⟨10, false, false, ⟨#[]⟩, 0, u, 0, ⟨#[]⟩⟩ := ⟨_, rfl⟩
    have HO : Hid (∀ W, Below w.heap.size w W → Calls Tryz.prog 89 #[.agg #[.int .i64 10, .bool b, .bool neg, .string dig, .int .i64 exp, .int .u64 (u : Int), .int .i64 wd, .string s, .slice A 0 c], .agg #[.int .i64 0, .bool false, .bool false, .string ⟨#[]⟩, .int .i64 0, .int .u64 (u : Int), .int .i64 0, .string ⟨#[]⟩, .slice none 0 0]] W (BolP R W)) := Lib.hid (fun W hW => by
      rw [hR]
      exact rOnly_calls ⟨10, b, neg, dig, exp, u, wd, s⟩ ⟨0, false, false, ⟨#[]⟩, 0, u, 0, ⟨#[]⟩⟩ _ _ none 0 0 W (HK.out.below hW))
    have HX := Lib.hid (Nx.new w ⟨10, b, neg, dig, exp, u, wd, s⟩ (.slice A 0 c))
    have HB := Lib.hid (below_a (Below.refl _ w) (.cells ((⟨10, b, neg, dig, exp, u, wd, s⟩ : Hd).cells (.slice A 0 c)) 27))
    obtain ⟨y0, y1, y2, y3, y4, y5, y6, y7, y8⟩ := HX.out.nine

    simp only [Hd.cells]
    go_enter Tryz.func55, Tryz.ntmps55
    go_wp2_with fail
    refine (HO.out _ HB.out).mono ?_
    rintro o w1 ⟨rfl, hb1⟩
    replace HB := Lib.hid (below_nx HB.out hb1)
    replace HX := Lib.hid (HX.out.below hb1)
    clear hb1 y0 y1 y2 y3 y4 y5 y6 y7 y8
    obtain ⟨y0, y1, y2, y3, y4, y5, y6, y7, y8⟩ := HX.out.nine
    have HF : Hid (o_isSimple ⟨10, b, neg, dig, exp, u, wd, s⟩ 0 = (R && simpleN u)) := Lib.hid (by rw [o_isSimple, j_isSimple, hR]; simp)
    clear hR
    by_cases g1 : u ≤ 19
    · have g1i : (u : Int) ≤ 19 := by omega
      rw [show simpleN u = true by simp [simpleN]; omega] at HF
      cases R with
      | true =>
        go_wp2_with fail
        go_ret
        exact ⟨by rw [HF.out]; first | rfl | (show Ending.returned (Value.bool _) = Ending.returned (Value.bool _); simp [*]), HB.out⟩
      | false =>
        go_wp2_with fail
        go_ret
        exact ⟨by rw [HF.out]; first | rfl | (show Ending.returned (Value.bool _) = Ending.returned (Value.bool _); simp [*]), HB.out⟩
    · have g1i : ¬ (u : Int) ≤ 19 := by omega
      by_cases g2 : u = 23
      · subst g2
        rw [show simpleN 23 = true by decide] at HF
        cases R with
        | true =>
          go_wp2_with fail
          go_ret
          exact ⟨by rw [HF.out]; first | rfl | (show Ending.returned (Value.bool _) = Ending.returned (Value.bool _); simp [*]), HB.out⟩
        | false =>
          go_wp2_with fail
          go_ret
          exact ⟨by rw [HF.out]; first | rfl | (show Ending.returned (Value.bool _) = Ending.returned (Value.bool _); simp [*]), HB.out⟩
      · have g2i : ¬ (u : Int) = 23 := by omega
        by_cases g3 : 32 ≤ u
        · have g3i : (32 : Int) ≤ (u : Int) := by omega
          by_cases g4 : u ≤ 255
          · have g4i : (u : Int) ≤ 255 := by omega
            rw [show simpleN u = true by simp [simpleN]; omega] at HF
            cases R with
            | true =>
              go_wp2_with fail
              go_ret
              exact ⟨by rw [HF.out]; first | rfl | (show Ending.returned (Value.bool _) = Ending.returned (Value.bool _); simp [*]), HB.out⟩
            | false =>
              go_wp2_with fail
              go_ret
              exact ⟨by rw [HF.out]; first | rfl | (show Ending.returned (Value.bool _) = Ending.returned (Value.bool _); simp [*]), HB.out⟩
          · have g4i : ¬ (u : Int) ≤ 255 := by omega
            rw [show simpleN u = false by simp [simpleN]; omega] at HF
            cases R with
            | true =>
              go_wp2_with fail
              go_ret
              exact ⟨by rw [HF.out]; first | rfl | (show Ending.returned (Value.bool _) = Ending.returned (Value.bool _); simp [*]), HB.out⟩
            | false =>
              go_wp2_with fail
              go_ret
              exact ⟨by rw [HF.out]; first | rfl | (show Ending.returned (Value.bool _) = Ending.returned (Value.bool _); simp [*]), HB.out⟩
        · have g3i : ¬ (32 : Int) ≤ (u : Int) := by omega
          rw [show simpleN u = false by simp [simpleN]; omega] at HF
          cases R with
          | true =>
            go_wp2_with fail
            go_ret
            exact ⟨by rw [HF.out]; first | rfl | (show Ending.returned (Value.bool _) = Ending.returned (Value.bool _); simp [*]), HB.out⟩
          | false =>
            go_wp2_with fail
            go_ret
            exact ⟨by rw [HF.out]; first | rfl | (show Ending.returned (Value.bool _) = Ending.returned (Value.bool _); simp [*]), HB.out⟩
  · have hne : ¬ (k.len : Int) = 0 := by omega
    have HF : Hid (o_isSimple ⟨10, b, neg, dig, exp, u, wd, s⟩ k.len = false) := Lib.hid (by simp [o_isSimple, j_isSimple, h0])
    clear HK
    have HX := Lib.hid (Nx.new w ⟨10, b, neg, dig, exp, u, wd, s⟩ (.slice A k.len c))
    have HB := Lib.hid (below_a (Below.refl _ w) (.cells ((⟨10, b, neg, dig, exp, u, wd, s⟩ : Hd).cells (.slice A k.len c)) 27))
    obtain ⟨y0, y1, y2, y3, y4, y5, y6, y7, y8⟩ := HX.out.nine

    simp only [Hd.cells]
    go_enter Tryz.func55, Tryz.ntmps55
    go_wp2_with fail
    go_ret
    exact ⟨by rw [HF.out]; first | rfl | (show Ending.returned (Value.bool _) = Ending.returned (Value.bool _); simp [*]), HB.out⟩
set_option maxRecDepth 100000 in
set_option maxHeartbeats 1000000 in
theorem rOwn_11 (b neg : Bool) (dig : ByteArray) (exp : Int) (u : Nat) (wd : Int) (s : ByteArray) (k : Fo) (v : Value) (w : World) (hk : Kd An w v k) : Calls Tryz.prog 55 #[.agg ((⟨11, b, neg, dig, exp, u, wd, s⟩ : Hd).cells v)] w (BolP (o_isExt ⟨11, b, neg, dig, exp, u, wd, s⟩ k.len) w) := by
  obtain ⟨A, c, rfl, _, _, _⟩ := hk.form
  have HK := Lib.hid hk
  clear hk
  by_cases h0 : k.len = 0
  · obtain rfl := len_nil h0
    simp only [Fo.len] at HK ⊢
    clear h0
    obtain ⟨R, hR⟩ : ∃ R, R = sameH ⟨11, b, neg, dig, exp, u, wd, s⟩ ⟨11, false, false, ⟨#[]⟩, 0, u, 0, s⟩ := ⟨_, rfl⟩
    have HO : Hid (∀ W, Below w.heap.size w W → Calls Tryz.prog 89 #[.agg #[.int .i64 11, .bool b, .bool neg, .string dig, .int .i64 exp, .int .u64 (u : Int), .int .i64 wd, .string s, .slice A 0 c], .agg #[.int .i64 0, .bool false, .bool false, .string ⟨#[]⟩, .int .i64 0, .int .u64 (u : Int), .int .i64 0, .string s, .slice none 0 0]] W (BolP R W)) := Lib.hid (fun W hW => by
      rw [hR]
      exact rOnly_calls ⟨11, b, neg, dig, exp, u, wd, s⟩ ⟨0, false, false, ⟨#[]⟩, 0, u, 0, s⟩ _ _ none 0 0 W (HK.out.below hW))
    have HX := Lib.hid (Nx.new w ⟨11, b, neg, dig, exp, u, wd, s⟩ (.slice A 0 c))
    have HB := Lib.hid (below_a (Below.refl _ w) (.cells ((⟨11, b, neg, dig, exp, u, wd, s⟩ : Hd).cells (.slice A 0 c)) 27))
    obtain ⟨y0, y1, y2, y3, y4, y5, y6, y7, y8⟩ := HX.out.nine

    simp only [Hd.cells]
    go_enter Tryz.func55, Tryz.ntmps55
    go_wp2_with fail
    refine (HO.out _ HB.out).mono ?_
    rintro o w1 ⟨rfl, hb1⟩
    replace HB := Lib.hid (below_nx HB.out hb1)
    replace HX := Lib.hid (HX.out.below hb1)
    clear hb1 y0 y1 y2 y3 y4 y5 y6 y7 y8
    obtain ⟨y0, y1, y2, y3, y4, y5, y6, y7, y8⟩ := HX.out.nine
    have HF : Hid (o_isExt ⟨11, b, neg, dig, exp, u, wd, s⟩ 0 = (R && (decide (u ≤ 255) && decide (s.size ≤ 400)))) := Lib.hid (by rw [o_isExt, j_isExt, hR]; simp)
    clear hR
    by_cases g1 : u ≤ 255
    · have g1i : (u : Int) ≤ 255 := by omega
      by_cases g2 : s.size ≤ 400
      · have g2i : (s.size : Int) ≤ 400 := by omega
        rw [decide_eq_true g1, decide_eq_true g2] at HF
        cases R with
        | true =>
          go_wp2_with fail
          go_ret
          exact ⟨by rw [HF.out]; first | rfl | (show Ending.returned (Value.bool _) = Ending.returned (Value.bool _); simp [*]), HB.out⟩
        | false =>
          go_wp2_with fail
          go_ret
          exact ⟨by rw [HF.out]; first | rfl | (show Ending.returned (Value.bool _) = Ending.returned (Value.bool _); simp [*]), HB.out⟩
      · have g2i : ¬ (s.size : Int) ≤ 400 := by omega
        rw [decide_eq_true g1, decide_eq_false g2] at HF
        cases R with
        | true =>
          go_wp2_with fail
          go_ret
          exact ⟨by rw [HF.out]; first | rfl | (show Ending.returned (Value.bool _) = Ending.returned (Value.bool _); simp [*]), HB.out⟩
        | false =>
          go_wp2_with fail
          go_ret
          exact ⟨by rw [HF.out]; first | rfl | (show Ending.returned (Value.bool _) = Ending.returned (Value.bool _); simp [*]), HB.out⟩
    · have g1i : ¬ (u : Int) ≤ 255 := by omega
      rw [decide_eq_false g1] at HF
      cases R with
      | true =>
        go_wp2_with fail
        go_ret
        exact ⟨by rw [HF.out]; first | rfl | (show Ending.returned (Value.bool _) = Ending.returned (Value.bool _); simp [*]), HB.out⟩
      | false =>
        go_wp2_with fail
        go_ret
        exact ⟨by rw [HF.out]; first | rfl | (show Ending.returned (Value.bool _) = Ending.returned (Value.bool _); simp [*]), HB.out⟩
  · have hne : ¬ (k.len : Int) = 0 := by omega
    have HF : Hid (o_isExt ⟨11, b, neg, dig, exp, u, wd, s⟩ k.len = false) := Lib.hid (by simp [o_isExt, j_isExt, h0])
    clear HK
    have HX := Lib.hid (Nx.new w ⟨11, b, neg, dig, exp, u, wd, s⟩ (.slice A k.len c))
    have HB := Lib.hid (below_a (Below.refl _ w) (.cells ((⟨11, b, neg, dig, exp, u, wd, s⟩ : Hd).cells (.slice A k.len c)) 27))
    obtain ⟨y0, y1, y2, y3, y4, y5, y6, y7, y8⟩ := HX.out.nine

    simp only [Hd.cells]
    go_enter Tryz.func55, Tryz.ntmps55
    go_wp2_with fail
    go_ret
    exact ⟨by rw [HF.out]; first | rfl | (show Ending.returned (Value.bool _) = Ending.returned (Value.bool _); simp [*]), HB.out⟩
set_option maxRecDepth 100000 in
set_option maxHeartbeats 1000000 in
theorem rOwn_4 (b neg : Bool) (dig : ByteArray) (exp : Int) (u : Nat) (wd : Int) (s : ByteArray) (k : Fo) (v : Value) (w : World) (hk : Kd An w v k) : Calls Tryz.prog 55 #[.agg ((⟨4, b, neg, dig, exp, u, wd, s⟩ : Hd).cells v)] w (BolP (o_isFloat ⟨4, b, neg, dig, exp, u, wd, s⟩ k.len) w) := by
  obtain ⟨A, c, rfl, _, _, _⟩ := hk.form
  have HK := Lib.hid hk
  clear hk
  by_cases h0 : k.len = 0
  · obtain rfl := len_nil h0
    simp only [Fo.len] at HK ⊢
    clear h0
    obtain ⟨R, hR⟩ : ∃ R, R = sameH ⟨4, b, neg, dig, exp, u, wd, s⟩ ⟨4, false, false, ⟨#[]⟩, 0, u, wd, ⟨#[]⟩⟩ := ⟨_, rfl⟩
    have HO : Hid (∀ W, Below w.heap.size w W → Calls Tryz.prog 89 #[.agg #[.int .i64 4, .bool b, .bool neg, .string dig, .int .i64 exp, .int .u64 (u : Int), .int .i64 wd, .string s, .slice A 0 c], .agg #[.int .i64 0, .bool false, .bool false, .string ⟨#[]⟩, .int .i64 0, .int .u64 (u : Int), .int .i64 wd, .string ⟨#[]⟩, .slice none 0 0]] W (BolP R W)) := Lib.hid (fun W hW => by
      rw [hR]
      exact rOnly_calls ⟨4, b, neg, dig, exp, u, wd, s⟩ ⟨0, false, false, ⟨#[]⟩, 0, u, wd, ⟨#[]⟩⟩ _ _ none 0 0 W (HK.out.below hW))
    have HX := Lib.hid (Nx.new w ⟨4, b, neg, dig, exp, u, wd, s⟩ (.slice A 0 c))
    have HB := Lib.hid (below_a (Below.refl _ w) (.cells ((⟨4, b, neg, dig, exp, u, wd, s⟩ : Hd).cells (.slice A 0 c)) 27))
    obtain ⟨y0, y1, y2, y3, y4, y5, y6, y7, y8⟩ := HX.out.nine
    obtain ⟨O, hO⟩ : ∃ O, O = widO u wd := ⟨_, rfl⟩
    have HWi : Hid (∀ W, Calls Tryz.prog 36 #[.int .u64 (u : Int), .int .i64 wd] W (WidP O W)) := Lib.hid (fun W => by rw [hO]; exact rWiden_calls u wd W)
    simp only [Hd.cells]
    go_enter Tryz.func55, Tryz.ntmps55
    go_wp2_with fail
    refine (HWi.out _).mono ?_
    rintro o w2 ⟨rfl, hb2⟩
    replace HB := Lib.hid (below_nx HB.out hb2)
    replace HX := Lib.hid (HX.out.below hb2)
    clear hb2 y0 y1 y2 y3 y4 y5 y6 y7 y8
    obtain ⟨y0, y1, y2, y3, y4, y5, y6, y7, y8⟩ := HX.out.nine
    have HF : Hid (o_isFloat ⟨4, b, neg, dig, exp, u, wd, s⟩ 0 = (O.isSome && R)) := Lib.hid (by rw [o_isFloat, j_isFloat, hR, hO]; simp)
    clear hR hO
    cases O with
    | none =>
      simp only [Option.getD_none, Option.isSome_none, Bool.false_eq_true, if_false]
      go_wp2_with fail
      refine (HO.out _ HB.out).mono ?_
      rintro o w1 ⟨rfl, hb1⟩
      replace HB := Lib.hid (below_nx HB.out hb1)
      replace HX := Lib.hid (HX.out.below hb1)
      clear hb1 y0 y1 y2 y3 y4 y5 y6 y7 y8
      obtain ⟨y0, y1, y2, y3, y4, y5, y6, y7, y8⟩ := HX.out.nine
      cases R with
      | true =>
        go_wp2_with fail
        go_ret
        exact ⟨by rw [HF.out]; first | rfl | (show Ending.returned (Value.bool _) = Ending.returned (Value.bool _); simp [*]), HB.out⟩
      | false =>
        go_wp2_with fail
        go_ret
        exact ⟨by rw [HF.out]; first | rfl | (show Ending.returned (Value.bool _) = Ending.returned (Value.bool _); simp [*]), HB.out⟩
    | some a =>
      simp only [Option.getD_some, Option.isSome_some, if_true]
      go_wp2_with fail
      refine (HO.out _ HB.out).mono ?_
      rintro o w1 ⟨rfl, hb1⟩
      replace HB := Lib.hid (below_nx HB.out hb1)
      replace HX := Lib.hid (HX.out.below hb1)
      clear hb1 y0 y1 y2 y3 y4 y5 y6 y7 y8
      obtain ⟨y0, y1, y2, y3, y4, y5, y6, y7, y8⟩ := HX.out.nine
      cases R with
      | true =>
        go_wp2_with fail
        go_ret
        exact ⟨by rw [HF.out]; first | rfl | (show Ending.returned (Value.bool _) = Ending.returned (Value.bool _); simp [*]), HB.out⟩
      | false =>
        go_wp2_with fail
        go_ret
        exact ⟨by rw [HF.out]; first | rfl | (show Ending.returned (Value.bool _) = Ending.returned (Value.bool _); simp [*]), HB.out⟩
  · have hne : ¬ (k.len : Int) = 0 := by omega
    have HF : Hid (o_isFloat ⟨4, b, neg, dig, exp, u, wd, s⟩ k.len = false) := Lib.hid (by simp [o_isFloat, j_isFloat, h0])
    clear HK
    have HX := Lib.hid (Nx.new w ⟨4, b, neg, dig, exp, u, wd, s⟩ (.slice A k.len c))
    have HB := Lib.hid (below_a (Below.refl _ w) (.cells ((⟨4, b, neg, dig, exp, u, wd, s⟩ : Hd).cells (.slice A k.len c)) 27))
    obtain ⟨y0, y1, y2, y3, y4, y5, y6, y7, y8⟩ := HX.out.nine
    obtain ⟨O, hO⟩ : ∃ O, O = widO u wd := ⟨_, rfl⟩
    have HWi : Hid (∀ W, Calls Tryz.prog 36 #[.int .u64 (u : Int), .int .i64 wd] W (WidP O W)) := Lib.hid (fun W => by rw [hO]; exact rWiden_calls u wd W)
    simp only [Hd.cells]
    go_enter Tryz.func55, Tryz.ntmps55
    go_wp2_with fail
    refine (HWi.out _).mono ?_
    rintro o w2 ⟨rfl, hb2⟩
    replace HB := Lib.hid (below_nx HB.out hb2)
    replace HX := Lib.hid (HX.out.below hb2)
    clear hb2 y0 y1 y2 y3 y4 y5 y6 y7 y8
    obtain ⟨y0, y1, y2, y3, y4, y5, y6, y7, y8⟩ := HX.out.nine
    clear hO
    cases O with
    | none =>
      simp only [Option.getD_none, Option.isSome_none, Bool.false_eq_true, if_false]
      go_wp2_with fail
      go_ret
      exact ⟨by rw [HF.out]; first | rfl | (show Ending.returned (Value.bool _) = Ending.returned (Value.bool _); simp [*]), HB.out⟩
    | some a =>
      simp only [Option.getD_some, Option.isSome_some, if_true]
      go_wp2_with fail
      go_ret
      exact ⟨by rw [HF.out]; first | rfl | (show Ending.returned (Value.bool _) = Ending.returned (Value.bool _); simp [*]), HB.out⟩
set_option maxRecDepth 100000 in
set_option maxHeartbeats 1000000 in
theorem rOwn_no (h : Hd) (A : Option Addr) (n c : Nat) (w : World) (hn : ¬ (1 ≤ h.kind ∧ h.kind ≤ 11)) : Calls Tryz.prog 55 #[.agg (h.cells (.slice A n c))] w (BolP false w) := by
  have n1 : ¬ h.kind = 1 := by omega
  have n2 : ¬ h.kind = 2 := by omega
  have n3 : ¬ h.kind = 3 := by omega
  have n4 : ¬ h.kind = 4 := by omega
  have n5 : ¬ h.kind = 5 := by omega
  have n6 : ¬ h.kind = 6 := by omega
  have n7 : ¬ h.kind = 7 := by omega
  have n8 : ¬ h.kind = 8 := by omega
  have n9 : ¬ h.kind = 9 := by omega
  have n10 : ¬ h.kind = 10 := by omega
  have n11 : ¬ h.kind = 11 := by omega
  clear hn
  simp only [Hd.cells]
  go_enter Tryz.func55, Tryz.ntmps55
  go_wp2_with fail
  go_ret
  exact ⟨rfl, below_a (Below.refl _ _) _⟩
end Go.Proofs.YtomociaidccfmaaGreatDoor

namespace Go.Proofs.YtomociaidccfmaaGreatDoor
open Go.RowKit

theorem keysF_at : ∀ (m : Nat) (f : Fo) {h : Hd} {k r : Fo}, f.drop (2 * m) = .cons h k r → ∃ r', (keysF f).drop m = .cons h k r'
  | 0, .cons _ _ .nil, _, _, _, e => by cases e; exact ⟨_, rfl⟩
  | 0, .cons _ _ (.cons _ _ _), _, _, _, e => by cases e; exact ⟨_, rfl⟩
  | 0, .nil, _, _, _, e => by cases e
  | m + 1, .cons _ _ (.cons _ _ r), _, _, _, e => keysF_at m r (show r.drop (2 * m) = _ by rw [show 2 * (m + 1) = 2 * m + 1 + 1 by omega] at e; exact e)
  | m + 1, .cons _ _ .nil, _, _, _, e => by
    rw [show 2 * (m + 1) = 2 * m + 1 + 1 by omega] at e
    simp only [Fo.drop] at e
    cases e
  | m + 1, .nil, _, _, _, e => by
    rw [show 2 * (m + 1) = 2 * m + 1 + 1 by omega] at e
    cases e
theorem keysF_half : ∀ (f : Fo), (keysF f).len = (f.len + 1) / 2
  | .nil => rfl
  | .cons _ _ .nil => by simp [keysF, Fo.len]
  | .cons _ _ (.cons _ _ r) => by
    simp only [keysF, Fo.len]
    rw [keysF_half r]
    omega
set_option maxRecDepth 100000 in
set_option maxHeartbeats 4000000 in
theorem rOwn_8 (b neg : Bool) (dig : ByteArray) (exp : Int) (u : Nat) (wd : Int) (s : ByteArray) (k : Fo) (v : Value) (w : World) (hk : Kd An w v k) (hfl : k.len < 1353245080301) : Calls Tryz.prog 55 #[.agg ((⟨8, b, neg, dig, exp, u, wd, s⟩ : Hd).cells v)] w (BolP (o_isMap ⟨8, b, neg, dig, exp, u, wd, s⟩ k) w) := by
  obtain ⟨A, c, rfl, hc, hl, hL⟩ := hk.form
  have HK := Lib.hid hk
  have HL := Lib.hid hL
  have HLI : Hid (k.len < 1353245080301) := Lib.hid hfl
  clear hk hL hfl
  obtain ⟨R, hR⟩ : ∃ R, R = sameH ⟨8, b, neg, dig, exp, u, wd, s⟩ ⟨8, false, false, ⟨#[]⟩, 0, 0, 0, ⟨#[]⟩⟩ := ⟨_, rfl⟩
  have HO : Hid (∀ W, Below w.heap.size w W → Calls Tryz.prog 89 #[.agg #[.int .i64 8, .bool b, .bool neg, .string dig, .int .i64 exp, .int .u64 (u : Int), .int .i64 wd, .string s, .slice A k.len c], .agg #[.int .i64 0, .bool false, .bool false, .string ⟨#[]⟩, .int .i64 0, .int .u64 0, .int .i64 0, .string ⟨#[]⟩, .slice none 0 0]] W (BolP R W)) := Lib.hid (fun W hW => by
    rw [hR]
    exact rOnly_calls ⟨8, b, neg, dig, exp, u, wd, s⟩ ⟨0, false, false, ⟨#[]⟩, 0, 0, 0, ⟨#[]⟩⟩ _ _ none 0 0 W (HK.out.below hW))
  have HX := Lib.hid (Nx.new w ⟨8, b, neg, dig, exp, u, wd, s⟩ (.slice A k.len c))
  have HB := Lib.hid (below_a (Below.refl _ w) (.cells ((⟨8, b, neg, dig, exp, u, wd, s⟩ : Hd).cells (.slice A k.len c)) 27))
  obtain ⟨y0, y1, y2, y3, y4, y5, y6, y7, y8⟩ := HX.out.nine
  have HJ : Hid (o_isArray ⟨8, b, neg, dig, exp, u, wd, s⟩ k.len = R) := Lib.hid (by rw [o_isArray, j_isArray, hR]; simp)
  clear hR
  obtain ⟨h8, hh8⟩ : ∃ h8 : Hd, h8 = ⟨8, b, neg, dig, exp, u, wd, s⟩ := ⟨_, rfl⟩
  have HH8 := Lib.hid hh8
  rw [← hh8] at HX HB HJ
  simp only [Hd.cells]
  rw [← hh8]
  clear hh8
  go_enter Tryz.func55, Tryz.ntmps55
  go_wp2_with fail
  generalize hlf : ((k.len : Int) == 0) = lf
  clear hlf
  refine (HO.out _ (by rw [HH8.out] at HB; exact HB.out)).mono ?_
  rintro o w1 ⟨rfl, hb1⟩
  rw [HH8.out] at HB HX
  replace HB := Lib.hid (below_nx HB.out hb1)
  replace HX := Lib.hid (HX.out.below hb1)
  rw [← HH8.out] at HX
  clear hb1 y0 y1 y2 y3 y4 y5 y6 y7 y8 HO
  have c8 := HX.out.c8
  cases R with
  | false =>
    go_wp2_with fail
    go_ret
    exact ⟨by rw [o_isMap, HJ.out]; rfl, HB.out⟩
  | true =>
    by_cases he : k.len % 2 = 0
    · have he2 : ((k.len : Int)).tmod 2 = 0 := by rw [Int.tmod_eq_emod_of_nonneg (by omega)]; omega
      have HQm : Hid (o_isMap h8 k = distF (keysF k)) := Lib.hid (by rw [o_isMap, HJ.out, decide_eq_true he]; rfl)
      obtain ⟨t, ht⟩ : ∃ t, k.len = 2 * t := ⟨k.len / 2, by omega⟩
      have HTt := Lib.hid ht
      obtain ⟨G, hG⟩ : ∃ G, G = keysF k := ⟨_, rfl⟩
      have HGl : Hid (G.len = t) := Lib.hid (by rw [hG, keysF_half, ht]; omega)
      have HGa : Hid (∀ (m : Nat) (h' : Hd) (k' r : Fo), k.drop (2 * m) = .cons h' k' r → ∃ r', G.drop m = .cons h' k' r') := Lib.hid (fun m h' k' r e => by rw [hG]; exact keysF_at m k e)
      rw [← hG] at HQm
      clear hG ht he
      go_wp2_with fail
      go_loopw [6] (fun i wr => ∃ m : Nat, i = .int .i64 ((2 * m : Nat) : Int) ∧ m ≤ t ∧ distF G = distG (G.take m) (G.drop m) ∧ Below w.heap.size w wr ∧ Nx wr w.heap.size h8 (.slice A k.len c)) (fun i _ => 2 * t - (intOf i).toNat)
      case atStart => exact ⟨0, rfl, Nat.zero_le _, rfl, HB.out, HX.out⟩
      case round =>
        obtain ⟨m, rfl, hm, hd, hb, hx⟩ := hrel
        have HD := Lib.hid hd
        replace HB := Lib.hid hb
        replace HX := Lib.hid hx
        clear hd hb hx c8
        have c8 := HX.out.c8
        by_cases hgo : m < t
        · have hgi : ((2 * m : Nat) : Int) < (k.len : Int) := by have := HTt.out; omega
          go_wp2_with fail
          go_loopw [7] (fun i2 wr2 => ∃ q : Nat, i2 = .int .i64 ((2 * q : Nat) : Int) ∧ q ≤ m ∧ (∀ (h' : Hd) (k' r : Fo), G.drop m = .cons h' k' r → hitF h' k' (G.take m) = hitF h' k' ((G.take m).drop q)) ∧ Below w.heap.size w wr2 ∧ Nx wr2 w.heap.size h8 (.slice A k.len c)) (fun i2 _ => 2 * m - (intOf i2).toNat)
          case atStart => exact ⟨0, rfl, Nat.zero_le _, fun _ _ _ _ => rfl, HB.out, HX.out⟩
          case round =>
            obtain ⟨q, rfl, hq, hh, hb2, hx2⟩ := hrel
            have HH := Lib.hid hh
            have HB2 := Lib.hid hb2
            have HX2 := Lib.hid hx2
            clear hh hb2 hx2 c8
            obtain ⟨h', k', r, hdr⟩ := drop_cons (f := k) (i := 2 * m) (by have := HTt.out; omega)
            obtain ⟨rG, hdG⟩ := HGa.out m h' k' r hdr
            have HDG := Lib.hid hdG
            by_cases hgo2 : q < m
            · have hgi2 : ((2 * q : Nat) : Int) < ((2 * m : Nat) : Int) := by omega
              have hgi3 : ((2 * q : Nat) : Int) < (k.len : Int) := by omega
              obtain ⟨B, o, rfl, hB, _, hLi⟩ := HL.out (by have := HTt.out; omega)
              have hLj := lies_drop (2 * m) hLi
              rw [hdr] at hLj
              obtain ⟨⟨v', hc', hk'⟩, hu', _⟩ := lies_cons.1 hLj
              obtain ⟨h'', k'', r2, hdr2⟩ := drop_cons (f := k) (i := 2 * q) (by have := HTt.out; omega)
              have hLq := lies_drop (2 * q) hLi
              rw [hdr2] at hLq
              obtain ⟨⟨v'', hc'', hk''⟩, hu'', _⟩ := lies_cons.1 hLq
              obtain ⟨rG2, hdG2⟩ := HGa.out q h'' k'' r2 hdr2
              obtain ⟨r', hr1, hr2⟩ := take_drop_cons q m G hgo2 hdG2
              have HC' := Lib.hid (show Cells wr.drew B (o + 2 * m * 9) (h'.cells v') from hc'.below HB2.out.drew)
              have HC'' := Lib.hid (show Cells wr.drew B (o + 2 * q * 9) (h''.cells v'') from hc''.below HB2.out.drew)
              have HXd := Lib.hid (show Nx wr.drew w.heap.size h8 (.slice (some ⟨B, o, none⟩) k.len c) from HX2.out)
              have HBd := Lib.hid HB2.out.drew
              obtain ⟨Q, hQ⟩ : ∃ Q, Q = (sameH h' h'' && sameF k' k'') := ⟨_, rfl⟩
              have HQ := Lib.hid hQ
              have HI : Hid (∀ W, Below w.heap.size w W → Calls Tryz.prog 90 #[.agg (h'.cells v'), .agg (h''.cells v'')] W (BolP Q W)) := Lib.hid (fun W hW => by
                rw [hQ]
                exact rSame_calls k' k'' h' h'' v' v'' W (hk'.below hW) (hk''.below hW))
              have HE : Hid (hitF h' k' (G.take m) = (Q || hitF h' k' ((G.take m).drop (q + 1)))) := Lib.hid (by rw [HH.out h' k' rG hdG, hr1, hr2, hitF, hQ])
              clear hLi hLj hLq hc' hc'' hk' hk'' hu' hu'' hdr hdr2 hdG hdG2 hr1 hr2 hQ
              obtain ⟨M, hM⟩ : ∃ M : Nat, M = 2 * m := ⟨_, rfl⟩
              obtain ⟨N, hN⟩ : ∃ N : Nat, N = 2 * q := ⟨_, rfl⟩
              rw [← hM] at HC' hgi hgi2 ⊢
              rw [← hN] at HC'' hgi2 hgi3 ⊢
              have HM := Lib.hid hM
              have HNn := Lib.hid hN
              clear hM hN
              have c8 := HXd.out.c8
              go_wp2_with fail
              go_region_held3 (fun w' => (w'.cell? ⟨B, o + M * 9, none⟩ = some (.int .i64 h'.kind) ∧ w'.cell? ⟨B, o + M * 9 + 1, none⟩ = some (.bool h'.b) ∧ w'.cell? ⟨B, o + M * 9 + 2, none⟩ = some (.bool h'.neg) ∧ w'.cell? ⟨B, o + M * 9 + 3, none⟩ = some (.string h'.dig) ∧ w'.cell? ⟨B, o + M * 9 + 4, none⟩ = some (.int .i64 h'.exp) ∧ w'.cell? ⟨B, o + M * 9 + 5, none⟩ = some (.int .u64 (h'.u : Int)) ∧ w'.cell? ⟨B, o + M * 9 + 6, none⟩ = some (.int .i64 h'.w) ∧ w'.cell? ⟨B, o + M * 9 + 7, none⟩ = some (.string h'.s) ∧ w'.cell? ⟨B, o + M * 9 + 8, none⟩ = some (v')) ∧ (w'.cell? ⟨B, o + N * 9, none⟩ = some (.int .i64 h''.kind) ∧ w'.cell? ⟨B, o + N * 9 + 1, none⟩ = some (.bool h''.b) ∧ w'.cell? ⟨B, o + N * 9 + 2, none⟩ = some (.bool h''.neg) ∧ w'.cell? ⟨B, o + N * 9 + 3, none⟩ = some (.string h''.dig) ∧ w'.cell? ⟨B, o + N * 9 + 4, none⟩ = some (.int .i64 h''.exp) ∧ w'.cell? ⟨B, o + N * 9 + 5, none⟩ = some (.int .u64 (h''.u : Int)) ∧ w'.cell? ⟨B, o + N * 9 + 6, none⟩ = some (.int .i64 h''.w) ∧ w'.cell? ⟨B, o + N * 9 + 7, none⟩ = some (.string h''.s) ∧ w'.cell? ⟨B, o + N * 9 + 8, none⟩ = some (v'')) ∧ w'.cell? ⟨w.heap.size, 8, none⟩ = some (.slice (some ⟨B, o, none⟩) k.len c))
                (first | exact ⟨HC'.out.nine, HC''.out.nine, HXd.out.c8⟩ | exact ⟨(HC'.out.below hb3).nine, (HC''.out.below hb3).nine, (HXd.out.below hb3).c8⟩)
                (first | (go_at_call 90; refine (HI.out _ HBd.out).mono ?_; rintro o w3 ⟨rfl, hb3⟩))
              have HB3 := Lib.hid (below_nx HBd.out hb3)
              have HX3 := Lib.hid (HXd.out.below hb3)
              clear hb3 c8
              obtain rfl := HM.out
              obtain rfl := HNn.out
              cases Q with
              | true =>
                go_wp2_with fail
                go_ret
                refine ⟨?_, HB3.out⟩
                rw [HQm.out, HD.out, HDG.out, distG, HE.out, Bool.true_or]
                rfl
              | false =>
                have hqb : (q : Int) < 1353245080301 := by have := HLI.out; have := HTt.out; omega
                go_wp2_with fail
                go_roundw
                case rel => exact ⟨q + 1, by congr 1 <;> omega, hgo2, fun h1 k1 r1 e1 => by rw [HDG.out] at e1; cases e1; rw [HE.out, Bool.false_or], HB3.out, HX3.out⟩
                case measure => simp [intOf]; omega
            · have hgi2 : ¬ ((2 * q : Nat) : Int) < ((2 * m : Nat) : Int) := by omega
              have HE : Hid (hitF h' k' (G.take m) = false) := Lib.hid (by
                rw [HH.out h' k' rG hdG, show (G.take m).drop q = .nil by rw [show q = (G.take m).len by rw [take_len m G (by have := HGl.out; omega)]; omega, drop_end]]
                rfl)
              clear hdr hdG
              have hmb : (m : Int) < 1353245080301 := by have := HLI.out; have := HTt.out; omega
              go_wp2_with fail
              go_roundw
              case rel => exact ⟨m + 1, by congr 1 <;> omega, hgo, by rw [HD.out, HDG.out, distG, HE.out, take_app m G HDG.out, drop_succ m G HDG.out]; rfl, HB2.out, HX2.out⟩
              case measure => simp [intOf]; omega
        · have hgi : ¬ ((2 * m : Nat) : Int) < (k.len : Int) := by have := HTt.out; omega
          go_wp2_with fail
          go_ret
          refine ⟨?_, HB.out⟩
          rw [HQm.out, HD.out, show G.drop m = .nil by rw [show m = G.len by have := HGl.out; omega, drop_end]]
          rfl
    · have he2 : ((k.len : Int)).tmod 2 = 1 := by rw [Int.tmod_eq_emod_of_nonneg (by omega)]; omega
      have HQ : Hid (o_isMap h8 k = false) := Lib.hid (by rw [o_isMap, HJ.out, decide_eq_false he]; rfl)
      go_wp2_with fail
      go_ret
      exact ⟨by rw [HQ.out]; rfl, HB.out⟩
end Go.Proofs.YtomociaidccfmaaGreatDoor
