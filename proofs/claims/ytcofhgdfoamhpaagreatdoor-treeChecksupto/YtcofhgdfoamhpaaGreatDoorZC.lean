/- The document's own: own, for each kind. -/
import Derived.Test.YtcofhgdfoamhpaaGreatDoorZA
import Derived.Test.YtcofhgdfoamhpaaGreatDoorYA
import Derived.Test.YtcofhgdfoamhpaaGreatDoorV3
namespace Go.Proofs.YtcofhgdfoamhpaaGreatDoor
open Go.RowKit

set_option maxRecDepth 100000 in
set_option maxHeartbeats 1000000 in
theorem rOwn_1 (b neg : Bool) (dig : ByteArray) (exp : Int) (u : Nat) (wd : Int) (s : ByteArray) (k : Fo) (v : Value) (w : World) (hk : Kd An w v k) : Calls Tryz.prog 36 #[.agg ((⟨1, b, neg, dig, exp, u, wd, s⟩ : Hd).cells v)] w (BolP (o_isNull ⟨1, b, neg, dig, exp, u, wd, s⟩ k.len) w) := by
  obtain ⟨A, c, rfl, _, _, _⟩ := hk.form
  have HK := Lib.hid hk
  clear hk
  by_cases h0 : k.len = 0
  · obtain rfl := len_nil h0
    simp only [Fo.len] at HK ⊢
    clear h0
    obtain ⟨R, hR⟩ : ∃ R, R = sameH ⟨1, b, neg, dig, exp, u, wd, s⟩ ⟨1, false, false, ⟨#[]⟩, 0, 0, 0, ⟨#[]⟩⟩ := ⟨_, rfl⟩
    have HO : Hid (∀ W, Below w.heap.size w W → Calls Tryz.prog 61 #[.agg #[.int .i64 1, .bool b, .bool neg, .string dig, .int .i64 exp, .int .u64 (u : Int), .int .i64 wd, .string s, .slice A 0 c], .agg #[.int .i64 0, .bool false, .bool false, .string ⟨#[]⟩, .int .i64 0, .int .u64 0, .int .i64 0, .string ⟨#[]⟩, .slice none 0 0]] W (BolP R W)) := Lib.hid (fun W hW => by
      rw [hR]
      exact rOnly_calls ⟨1, b, neg, dig, exp, u, wd, s⟩ ⟨0, false, false, ⟨#[]⟩, 0, 0, 0, ⟨#[]⟩⟩ _ _ none 0 0 W (HK.out.below hW))
    have HX := Lib.hid (Nx.new w ⟨1, b, neg, dig, exp, u, wd, s⟩ (.slice A 0 c))
    have HB := Lib.hid (below_a (Below.refl _ w) (.cells ((⟨1, b, neg, dig, exp, u, wd, s⟩ : Hd).cells (.slice A 0 c)) 27))
    obtain ⟨y0, y1, y2, y3, y4, y5, y6, y7, y8⟩ := HX.out.nine

    simp only [Hd.cells]
    go_enter Tryz.func36, Tryz.ntmps36
    go_wp2_with fail
    refine (HO.out _ HB.out).mono ?_
    rintro o w1 ⟨rfl, hb1⟩
    replace HB := Lib.hid (below_nx HB.out hb1)
    replace HX := Lib.hid (HX.out.below hb1)
    clear hb1 y0 y1 y2 y3 y4 y5 y6 y7 y8
    obtain ⟨y0, y1, y2, y3, y4, y5, y6, y7, y8⟩ := HX.out.nine
    have HF : Hid (o_isNull ⟨1, b, neg, dig, exp, u, wd, s⟩ 0 = R) := Lib.hid (by rw [o_isNull, j_isNull, hR]; simp)
    clear hR
    go_wp2_with fail
    go_ret
    exact ⟨by rw [HF.out]; first | rfl | (show Ending.returned (Value.bool _) = Ending.returned (Value.bool _); simp [*]), HB.out⟩
  · have hne : ¬ (k.len : Int) = 0 := by omega
    have HF : Hid (o_isNull ⟨1, b, neg, dig, exp, u, wd, s⟩ k.len = false) := Lib.hid (by simp [o_isNull, j_isNull, h0])
    clear HK
    have HX := Lib.hid (Nx.new w ⟨1, b, neg, dig, exp, u, wd, s⟩ (.slice A k.len c))
    have HB := Lib.hid (below_a (Below.refl _ w) (.cells ((⟨1, b, neg, dig, exp, u, wd, s⟩ : Hd).cells (.slice A k.len c)) 27))
    obtain ⟨y0, y1, y2, y3, y4, y5, y6, y7, y8⟩ := HX.out.nine

    simp only [Hd.cells]
    go_enter Tryz.func36, Tryz.ntmps36
    go_wp2_with fail
    go_ret
    exact ⟨by rw [HF.out]; first | rfl | (show Ending.returned (Value.bool _) = Ending.returned (Value.bool _); simp [*]), HB.out⟩
set_option maxRecDepth 100000 in
set_option maxHeartbeats 1000000 in
theorem rOwn_2 (b neg : Bool) (dig : ByteArray) (exp : Int) (u : Nat) (wd : Int) (s : ByteArray) (k : Fo) (v : Value) (w : World) (hk : Kd An w v k) : Calls Tryz.prog 36 #[.agg ((⟨2, b, neg, dig, exp, u, wd, s⟩ : Hd).cells v)] w (BolP (o_isBool ⟨2, b, neg, dig, exp, u, wd, s⟩ k.len) w) := by
  obtain ⟨A, c, rfl, _, _, _⟩ := hk.form
  have HK := Lib.hid hk
  clear hk
  by_cases h0 : k.len = 0
  · obtain rfl := len_nil h0
    simp only [Fo.len] at HK ⊢
    clear h0
    obtain ⟨R, hR⟩ : ∃ R, R = sameH ⟨2, b, neg, dig, exp, u, wd, s⟩ ⟨2, b, false, ⟨#[]⟩, 0, 0, 0, ⟨#[]⟩⟩ := ⟨_, rfl⟩
    have HO : Hid (∀ W, Below w.heap.size w W → Calls Tryz.prog 61 #[.agg #[.int .i64 2, .bool b, .bool neg, .string dig, .int .i64 exp, .int .u64 (u : Int), .int .i64 wd, .string s, .slice A 0 c], .agg #[.int .i64 0, .bool b, .bool false, .string ⟨#[]⟩, .int .i64 0, .int .u64 0, .int .i64 0, .string ⟨#[]⟩, .slice none 0 0]] W (BolP R W)) := Lib.hid (fun W hW => by
      rw [hR]
      exact rOnly_calls ⟨2, b, neg, dig, exp, u, wd, s⟩ ⟨0, b, false, ⟨#[]⟩, 0, 0, 0, ⟨#[]⟩⟩ _ _ none 0 0 W (HK.out.below hW))
    have HX := Lib.hid (Nx.new w ⟨2, b, neg, dig, exp, u, wd, s⟩ (.slice A 0 c))
    have HB := Lib.hid (below_a (Below.refl _ w) (.cells ((⟨2, b, neg, dig, exp, u, wd, s⟩ : Hd).cells (.slice A 0 c)) 27))
    obtain ⟨y0, y1, y2, y3, y4, y5, y6, y7, y8⟩ := HX.out.nine

    simp only [Hd.cells]
    go_enter Tryz.func36, Tryz.ntmps36
    go_wp2_with fail
    refine (HO.out _ HB.out).mono ?_
    rintro o w1 ⟨rfl, hb1⟩
    replace HB := Lib.hid (below_nx HB.out hb1)
    replace HX := Lib.hid (HX.out.below hb1)
    clear hb1 y0 y1 y2 y3 y4 y5 y6 y7 y8
    obtain ⟨y0, y1, y2, y3, y4, y5, y6, y7, y8⟩ := HX.out.nine
    have HF : Hid (o_isBool ⟨2, b, neg, dig, exp, u, wd, s⟩ 0 = R) := Lib.hid (by rw [o_isBool, j_isBool, hR]; simp)
    clear hR
    go_wp2_with fail
    go_ret
    exact ⟨by rw [HF.out]; first | rfl | (show Ending.returned (Value.bool _) = Ending.returned (Value.bool _); simp [*]), HB.out⟩
  · have hne : ¬ (k.len : Int) = 0 := by omega
    have HF : Hid (o_isBool ⟨2, b, neg, dig, exp, u, wd, s⟩ k.len = false) := Lib.hid (by simp [o_isBool, j_isBool, h0])
    clear HK
    have HX := Lib.hid (Nx.new w ⟨2, b, neg, dig, exp, u, wd, s⟩ (.slice A k.len c))
    have HB := Lib.hid (below_a (Below.refl _ w) (.cells ((⟨2, b, neg, dig, exp, u, wd, s⟩ : Hd).cells (.slice A k.len c)) 27))
    obtain ⟨y0, y1, y2, y3, y4, y5, y6, y7, y8⟩ := HX.out.nine

    simp only [Hd.cells]
    go_enter Tryz.func36, Tryz.ntmps36
    go_wp2_with fail
    go_ret
    exact ⟨by rw [HF.out]; first | rfl | (show Ending.returned (Value.bool _) = Ending.returned (Value.bool _); simp [*]), HB.out⟩
set_option maxRecDepth 100000 in
set_option maxHeartbeats 1000000 in
theorem rOwn_3 (b neg : Bool) (dig : ByteArray) (exp : Int) (u : Nat) (wd : Int) (s : ByteArray) (k : Fo) (v : Value) (w : World) (hk : Kd An w v k) : Calls Tryz.prog 36 #[.agg ((⟨3, b, neg, dig, exp, u, wd, s⟩ : Hd).cells v)] w (BolP (o_isNum ⟨3, b, neg, dig, exp, u, wd, s⟩ k.len) w) := by
  obtain ⟨A, c, rfl, _, _, _⟩ := hk.form
  have HK := Lib.hid hk
  clear hk
  by_cases h0 : k.len = 0
  · obtain rfl := len_nil h0
    simp only [Fo.len] at HK ⊢
    clear h0
    obtain ⟨R, hR⟩ : ∃ R, R = sameH ⟨3, b, neg, dig, exp, u, wd, s⟩ ⟨3, false, neg, dig, exp, 0, 0, ⟨#[]⟩⟩ := ⟨_, rfl⟩
    have HO : Hid (∀ W, Below w.heap.size w W → Calls Tryz.prog 61 #[.agg #[.int .i64 3, .bool b, .bool neg, .string dig, .int .i64 exp, .int .u64 (u : Int), .int .i64 wd, .string s, .slice A 0 c], .agg #[.int .i64 0, .bool false, .bool neg, .string dig, .int .i64 exp, .int .u64 0, .int .i64 0, .string ⟨#[]⟩, .slice none 0 0]] W (BolP R W)) := Lib.hid (fun W hW => by
      rw [hR]
      exact rOnly_calls ⟨3, b, neg, dig, exp, u, wd, s⟩ ⟨0, false, neg, dig, exp, 0, 0, ⟨#[]⟩⟩ _ _ none 0 0 W (HK.out.below hW))
    have HX := Lib.hid (Nx.new w ⟨3, b, neg, dig, exp, u, wd, s⟩ (.slice A 0 c))
    have HB := Lib.hid (below_a (Below.refl _ w) (.cells ((⟨3, b, neg, dig, exp, u, wd, s⟩ : Hd).cells (.slice A 0 c)) 27))
    obtain ⟨y0, y1, y2, y3, y4, y5, y6, y7, y8⟩ := HX.out.nine

    simp only [Hd.cells]
    go_enter Tryz.func36, Tryz.ntmps36
    go_wp2_with fail
    refine (HO.out _ HB.out).mono ?_
    rintro o w1 ⟨rfl, hb1⟩
    replace HB := Lib.hid (below_nx HB.out hb1)
    replace HX := Lib.hid (HX.out.below hb1)
    clear hb1 y0 y1 y2 y3 y4 y5 y6 y7 y8
    obtain ⟨y0, y1, y2, y3, y4, y5, y6, y7, y8⟩ := HX.out.nine
    obtain ⟨D, hD⟩ : ∃ D, D = rightD neg dig.data.toList exp := ⟨_, rfl⟩
    have HRt : Hid (∀ W, Calls Tryz.prog 62 #[.agg #[.bool neg, .string dig, .int .i64 exp]] W (BoolP D W)) := Lib.hid (fun W => by rw [hD]; exact rRight_p neg dig exp W)
    have HF : Hid (o_isNum ⟨3, b, neg, dig, exp, u, wd, s⟩ 0 = (R && D)) := Lib.hid (by rw [o_isNum, j_isNum, hR, hD]; simp)
    clear hR hD
    cases R with
    | true =>
      go_wp2_with fail
      refine (HRt.out _).mono ?_
      rintro o w2 ⟨rfl, hb2⟩
      replace HB := Lib.hid (below_nx HB.out hb2)
      clear hb2
      go_wp2_with fail
      go_ret
      exact ⟨by rw [HF.out]; first | rfl | (show Ending.returned (Value.bool _) = Ending.returned (Value.bool _); simp [*]), HB.out⟩
    | false =>
      go_wp2_with fail
      go_ret
      exact ⟨by rw [HF.out]; first | rfl | (show Ending.returned (Value.bool _) = Ending.returned (Value.bool _); simp [*]), HB.out⟩
  · have hne : ¬ (k.len : Int) = 0 := by omega
    have HF : Hid (o_isNum ⟨3, b, neg, dig, exp, u, wd, s⟩ k.len = false) := Lib.hid (by simp [o_isNum, j_isNum, h0])
    clear HK
    have HX := Lib.hid (Nx.new w ⟨3, b, neg, dig, exp, u, wd, s⟩ (.slice A k.len c))
    have HB := Lib.hid (below_a (Below.refl _ w) (.cells ((⟨3, b, neg, dig, exp, u, wd, s⟩ : Hd).cells (.slice A k.len c)) 27))
    obtain ⟨y0, y1, y2, y3, y4, y5, y6, y7, y8⟩ := HX.out.nine

    simp only [Hd.cells]
    go_enter Tryz.func36, Tryz.ntmps36
    go_wp2_with fail
    go_ret
    exact ⟨by rw [HF.out]; first | rfl | (show Ending.returned (Value.bool _) = Ending.returned (Value.bool _); simp [*]), HB.out⟩
set_option maxRecDepth 100000 in
set_option maxHeartbeats 1000000 in
theorem rOwn_6 (b neg : Bool) (dig : ByteArray) (exp : Int) (u : Nat) (wd : Int) (s : ByteArray) (k : Fo) (v : Value) (w : World) (hk : Kd An w v k) : Calls Tryz.prog 36 #[.agg ((⟨6, b, neg, dig, exp, u, wd, s⟩ : Hd).cells v)] w (BolP (o_isBytes ⟨6, b, neg, dig, exp, u, wd, s⟩ k.len) w) := by
  obtain ⟨A, c, rfl, _, _, _⟩ := hk.form
  have HK := Lib.hid hk
  clear hk
  by_cases h0 : k.len = 0
  · obtain rfl := len_nil h0
    simp only [Fo.len] at HK ⊢
    clear h0
    obtain ⟨R, hR⟩ : ∃ R, R = sameH ⟨6, b, neg, dig, exp, u, wd, s⟩ ⟨6, false, false, ⟨#[]⟩, 0, 0, 0, s⟩ := ⟨_, rfl⟩
    have HO : Hid (∀ W, Below w.heap.size w W → Calls Tryz.prog 61 #[.agg #[.int .i64 6, .bool b, .bool neg, .string dig, .int .i64 exp, .int .u64 (u : Int), .int .i64 wd, .string s, .slice A 0 c], .agg #[.int .i64 0, .bool false, .bool false, .string ⟨#[]⟩, .int .i64 0, .int .u64 0, .int .i64 0, .string s, .slice none 0 0]] W (BolP R W)) := Lib.hid (fun W hW => by
      rw [hR]
      exact rOnly_calls ⟨6, b, neg, dig, exp, u, wd, s⟩ ⟨0, false, false, ⟨#[]⟩, 0, 0, 0, s⟩ _ _ none 0 0 W (HK.out.below hW))
    have HX := Lib.hid (Nx.new w ⟨6, b, neg, dig, exp, u, wd, s⟩ (.slice A 0 c))
    have HB := Lib.hid (below_a (Below.refl _ w) (.cells ((⟨6, b, neg, dig, exp, u, wd, s⟩ : Hd).cells (.slice A 0 c)) 27))
    obtain ⟨y0, y1, y2, y3, y4, y5, y6, y7, y8⟩ := HX.out.nine

    simp only [Hd.cells]
    go_enter Tryz.func36, Tryz.ntmps36
    go_wp2_with fail
    refine (HO.out _ HB.out).mono ?_
    rintro o w1 ⟨rfl, hb1⟩
    replace HB := Lib.hid (below_nx HB.out hb1)
    replace HX := Lib.hid (HX.out.below hb1)
    clear hb1 y0 y1 y2 y3 y4 y5 y6 y7 y8
    obtain ⟨y0, y1, y2, y3, y4, y5, y6, y7, y8⟩ := HX.out.nine
    have HF : Hid (o_isBytes ⟨6, b, neg, dig, exp, u, wd, s⟩ 0 = (R && decide (s.size ≤ 400))) := Lib.hid (by rw [o_isBytes, j_isBytes, hR]; simp)
    clear hR
    by_cases hs : s.size ≤ 400
    · have hsi : (s.size : Int) ≤ 400 := by omega
      rw [decide_eq_true hs] at HF
      cases R with
      | true =>
        go_wp2_with fail
        go_ret
        exact ⟨by rw [HF.out]; first | rfl | (show Ending.returned (Value.bool _) = Ending.returned (Value.bool _); simp [*]), HB.out⟩
      | false =>
        go_wp2_with fail
        go_ret
        exact ⟨by rw [HF.out]; first | rfl | (show Ending.returned (Value.bool _) = Ending.returned (Value.bool _); simp [*]), HB.out⟩
    · have hsi : ¬ (s.size : Int) ≤ 400 := by omega
      rw [decide_eq_false hs] at HF
      cases R with
      | true =>
        go_wp2_with fail
        go_ret
        exact ⟨by rw [HF.out]; first | rfl | (show Ending.returned (Value.bool _) = Ending.returned (Value.bool _); simp [*]), HB.out⟩
      | false =>
        go_wp2_with fail
        go_ret
        exact ⟨by rw [HF.out]; first | rfl | (show Ending.returned (Value.bool _) = Ending.returned (Value.bool _); simp [*]), HB.out⟩
  · have hne : ¬ (k.len : Int) = 0 := by omega
    have HF : Hid (o_isBytes ⟨6, b, neg, dig, exp, u, wd, s⟩ k.len = false) := Lib.hid (by simp [o_isBytes, j_isBytes, h0])
    clear HK
    have HX := Lib.hid (Nx.new w ⟨6, b, neg, dig, exp, u, wd, s⟩ (.slice A k.len c))
    have HB := Lib.hid (below_a (Below.refl _ w) (.cells ((⟨6, b, neg, dig, exp, u, wd, s⟩ : Hd).cells (.slice A k.len c)) 27))
    obtain ⟨y0, y1, y2, y3, y4, y5, y6, y7, y8⟩ := HX.out.nine

    simp only [Hd.cells]
    go_enter Tryz.func36, Tryz.ntmps36
    go_wp2_with fail
    go_ret
    exact ⟨by rw [HF.out]; first | rfl | (show Ending.returned (Value.bool _) = Ending.returned (Value.bool _); simp [*]), HB.out⟩
set_option maxRecDepth 100000 in
set_option maxHeartbeats 1000000 in
theorem rOwn_5 (b neg : Bool) (dig : ByteArray) (exp : Int) (u : Nat) (wd : Int) (s : ByteArray) (k : Fo) (v : Value) (w : World) (hk : Kd An w v k) (hT : ∀ W, Below w.heap.size w W → Calls Tryz.prog 63 #[.string s] W (BolP (utfW s 0) W)) : Calls Tryz.prog 36 #[.agg ((⟨5, b, neg, dig, exp, u, wd, s⟩ : Hd).cells v)] w (BolP (o_isText ⟨5, b, neg, dig, exp, u, wd, s⟩ k.len) w) := by
  obtain ⟨A, c, rfl, _, _, _⟩ := hk.form
  have HK := Lib.hid hk
  clear hk
  by_cases h0 : k.len = 0
  · obtain rfl := len_nil h0
    simp only [Fo.len] at HK ⊢
    clear h0
    obtain ⟨R, hR⟩ : ∃ R, R = sameH ⟨5, b, neg, dig, exp, u, wd, s⟩ ⟨5, false, false, ⟨#[]⟩, 0, 0, 0, s⟩ := ⟨_, rfl⟩
    have HO : Hid (∀ W, Below w.heap.size w W → Calls Tryz.prog 61 #[.agg #[.int .i64 5, .bool b, .bool neg, .string dig, .int .i64 exp, .int .u64 (u : Int), .int .i64 wd, .string s, .slice A 0 c], .agg #[.int .i64 0, .bool false, .bool false, .string ⟨#[]⟩, .int .i64 0, .int .u64 0, .int .i64 0, .string s, .slice none 0 0]] W (BolP R W)) := Lib.hid (fun W hW => by
      rw [hR]
      exact rOnly_calls ⟨5, b, neg, dig, exp, u, wd, s⟩ ⟨0, false, false, ⟨#[]⟩, 0, 0, 0, s⟩ _ _ none 0 0 W (HK.out.below hW))
    have HX := Lib.hid (Nx.new w ⟨5, b, neg, dig, exp, u, wd, s⟩ (.slice A 0 c))
    have HB := Lib.hid (below_a (Below.refl _ w) (.cells ((⟨5, b, neg, dig, exp, u, wd, s⟩ : Hd).cells (.slice A 0 c)) 27))
    obtain ⟨y0, y1, y2, y3, y4, y5, y6, y7, y8⟩ := HX.out.nine
    obtain ⟨U, hU⟩ : ∃ U, U = utfW s 0 := ⟨_, rfl⟩
    have HT : Hid (∀ W, Below w.heap.size w W → Calls Tryz.prog 63 #[.string s] W (BolP U W)) := Lib.hid (by rw [hU]; exact hT)
    clear hT
    simp only [Hd.cells]
    go_enter Tryz.func36, Tryz.ntmps36
    go_wp2_with fail
    refine (HO.out _ HB.out).mono ?_
    rintro o w1 ⟨rfl, hb1⟩
    replace HB := Lib.hid (below_nx HB.out hb1)
    replace HX := Lib.hid (HX.out.below hb1)
    clear hb1 y0 y1 y2 y3 y4 y5 y6 y7 y8
    obtain ⟨y0, y1, y2, y3, y4, y5, y6, y7, y8⟩ := HX.out.nine
    have HF : Hid (o_isText ⟨5, b, neg, dig, exp, u, wd, s⟩ 0 = (R && decide (s.size ≤ 400) && U)) := Lib.hid (by rw [o_isText, o_isBytes, j_isBytes, hR, hU]; simp)
    clear hR hU
    by_cases hs : s.size ≤ 400
    · have hsi : (s.size : Int) ≤ 400 := by omega
      rw [decide_eq_true hs] at HF
      cases R with
      | true =>
        go_wp2_with fail
        refine (HT.out _ HB.out).mono ?_
        rintro o w2 ⟨rfl, hb2⟩
        replace HB := Lib.hid (below_nx HB.out hb2)
        clear hb2
        go_wp2_with fail
        go_ret
        exact ⟨by rw [HF.out]; first | rfl | (show Ending.returned (Value.bool _) = Ending.returned (Value.bool _); simp [*]), HB.out⟩
      | false =>
        go_wp2_with fail
        go_ret
        exact ⟨by rw [HF.out]; first | rfl | (show Ending.returned (Value.bool _) = Ending.returned (Value.bool _); simp [*]), HB.out⟩
    · have hsi : ¬ (s.size : Int) ≤ 400 := by omega
      rw [decide_eq_false hs, Bool.and_false, Bool.false_and] at HF
      cases R with
      | true =>
        go_wp2_with fail
        go_ret
        exact ⟨by rw [HF.out]; first | rfl | (show Ending.returned (Value.bool _) = Ending.returned (Value.bool _); simp [*]), HB.out⟩
      | false =>
        go_wp2_with fail
        go_ret
        exact ⟨by rw [HF.out]; first | rfl | (show Ending.returned (Value.bool _) = Ending.returned (Value.bool _); simp [*]), HB.out⟩
  · have hne : ¬ (k.len : Int) = 0 := by omega
    have HF : Hid (o_isText ⟨5, b, neg, dig, exp, u, wd, s⟩ k.len = false) := Lib.hid (by simp [o_isText, o_isBytes, j_isBytes, h0])
    clear HK
    have HX := Lib.hid (Nx.new w ⟨5, b, neg, dig, exp, u, wd, s⟩ (.slice A k.len c))
    have HB := Lib.hid (below_a (Below.refl _ w) (.cells ((⟨5, b, neg, dig, exp, u, wd, s⟩ : Hd).cells (.slice A k.len c)) 27))
    obtain ⟨y0, y1, y2, y3, y4, y5, y6, y7, y8⟩ := HX.out.nine
    obtain ⟨U, hU⟩ : ∃ U, U = utfW s 0 := ⟨_, rfl⟩
    have HT : Hid (∀ W, Below w.heap.size w W → Calls Tryz.prog 63 #[.string s] W (BolP U W)) := Lib.hid (by rw [hU]; exact hT)
    clear hT
    simp only [Hd.cells]
    go_enter Tryz.func36, Tryz.ntmps36
    go_wp2_with fail
    go_ret
    exact ⟨by rw [HF.out]; first | rfl | (show Ending.returned (Value.bool _) = Ending.returned (Value.bool _); simp [*]), HB.out⟩
set_option maxRecDepth 100000 in
set_option maxHeartbeats 1000000 in
theorem rOwn_7 (b neg : Bool) (dig : ByteArray) (exp : Int) (u : Nat) (wd : Int) (s : ByteArray) (k : Fo) (v : Value) (w : World) (hk : Kd An w v k) : Calls Tryz.prog 36 #[.agg ((⟨7, b, neg, dig, exp, u, wd, s⟩ : Hd).cells v)] w (BolP (o_isArray ⟨7, b, neg, dig, exp, u, wd, s⟩ k.len) w) := by
  obtain ⟨A, c, rfl, _, _, _⟩ := hk.form
  have HK := Lib.hid hk
  clear hk
  obtain ⟨R, hR⟩ : ∃ R, R = sameH ⟨7, b, neg, dig, exp, u, wd, s⟩ ⟨7, false, false, ⟨#[]⟩, 0, 0, 0, ⟨#[]⟩⟩ := ⟨_, rfl⟩
  have HO : Hid (∀ W, Below w.heap.size w W → Calls Tryz.prog 61 #[.agg #[.int .i64 7, .bool b, .bool neg, .string dig, .int .i64 exp, .int .u64 (u : Int), .int .i64 wd, .string s, .slice A k.len c], .agg #[.int .i64 0, .bool false, .bool false, .string ⟨#[]⟩, .int .i64 0, .int .u64 0, .int .i64 0, .string ⟨#[]⟩, .slice none 0 0]] W (BolP R W)) := Lib.hid (fun W hW => by
    rw [hR]
    exact rOnly_calls ⟨7, b, neg, dig, exp, u, wd, s⟩ ⟨0, false, false, ⟨#[]⟩, 0, 0, 0, ⟨#[]⟩⟩ _ _ none 0 0 W (HK.out.below hW))
  have HX := Lib.hid (Nx.new w ⟨7, b, neg, dig, exp, u, wd, s⟩ (.slice A k.len c))
  have HB := Lib.hid (below_a (Below.refl _ w) (.cells ((⟨7, b, neg, dig, exp, u, wd, s⟩ : Hd).cells (.slice A k.len c)) 27))
  obtain ⟨y0, y1, y2, y3, y4, y5, y6, y7, y8⟩ := HX.out.nine
  simp only [Hd.cells]
  go_enter Tryz.func36, Tryz.ntmps36
  go_wp2_with fail
  refine (HO.out _ HB.out).mono ?_
  rintro o w1 ⟨rfl, hb1⟩
  replace HB := Lib.hid (below_nx HB.out hb1)
  replace HX := Lib.hid (HX.out.below hb1)
  clear hb1 y0 y1 y2 y3 y4 y5 y6 y7 y8
  obtain ⟨y0, y1, y2, y3, y4, y5, y6, y7, y8⟩ := HX.out.nine
  have HF : Hid (o_isArray ⟨7, b, neg, dig, exp, u, wd, s⟩ k.len = R) := Lib.hid (by rw [o_isArray, j_isArray, hR]; simp)
  clear hR
  go_wp2_with fail
  go_ret
  exact ⟨by rw [HF.out]; first | rfl | (show Ending.returned (Value.bool _) = Ending.returned (Value.bool _); simp [*]), HB.out⟩
set_option maxRecDepth 100000 in
set_option maxHeartbeats 1000000 in
theorem rOwn_9 (b neg : Bool) (dig : ByteArray) (exp : Int) (u : Nat) (wd : Int) (s : ByteArray) (k : Fo) (v : Value) (w : World) (hk : Kd An w v k) : Calls Tryz.prog 36 #[.agg ((⟨9, b, neg, dig, exp, u, wd, s⟩ : Hd).cells v)] w (BolP (o_isTag ⟨9, b, neg, dig, exp, u, wd, s⟩ k.len) w) := by
  obtain ⟨A, c, rfl, _, _, _⟩ := hk.form
  have HK := Lib.hid hk
  clear hk
  by_cases h1 : k.len = 1
  · have h1i : (k.len : Int) = 1 := by omega
    obtain ⟨R, hR⟩ : ∃ R, R = sameH ⟨9, b, neg, dig, exp, u, wd, s⟩ ⟨9, false, false, ⟨#[]⟩, 0, u, 0, ⟨#[]⟩⟩ := ⟨_, rfl⟩
    have HO : Hid (∀ W, Below w.heap.size w W → Calls Tryz.prog 61 #[.agg #[.int .i64 9, .bool b, .bool neg, .string dig, .int .i64 exp, .int .u64 (u : Int), .int .i64 wd, .string s, .slice A k.len c], .agg #[.int .i64 0, .bool false, .bool false, .string ⟨#[]⟩, .int .i64 0, .int .u64 (u : Int), .int .i64 0, .string ⟨#[]⟩, .slice none 0 0]] W (BolP R W)) := Lib.hid (fun W hW => by
      rw [hR]
      exact rOnly_calls ⟨9, b, neg, dig, exp, u, wd, s⟩ ⟨0, false, false, ⟨#[]⟩, 0, u, 0, ⟨#[]⟩⟩ _ _ none 0 0 W (HK.out.below hW))
    have HX := Lib.hid (Nx.new w ⟨9, b, neg, dig, exp, u, wd, s⟩ (.slice A k.len c))
    have HB := Lib.hid (below_a (Below.refl _ w) (.cells ((⟨9, b, neg, dig, exp, u, wd, s⟩ : Hd).cells (.slice A k.len c)) 27))
    obtain ⟨y0, y1, y2, y3, y4, y5, y6, y7, y8⟩ := HX.out.nine
    have HF : Hid (o_isTag ⟨9, b, neg, dig, exp, u, wd, s⟩ k.len = R) := Lib.hid (by rw [o_isTag, j_isTag, hR]; simp [h1])
    clear hR
    rw [HF.out]
    clear HF
    rw [h1] at HO HB HX
    rw [h1] at y8
    rw [h1]
    clear h1i h1 HK
    simp only [Hd.cells]
    go_enter Tryz.func36, Tryz.ntmps36
    go_wp2_with fail
    refine (HO.out _ HB.out).mono ?_
    rintro o w1 ⟨rfl, hb1⟩
    replace HB := Lib.hid (below_nx HB.out hb1)
    replace HX := Lib.hid (HX.out.below hb1)
    clear hb1 y0 y1 y2 y3 y4 y5 y6 y7 y8
    obtain ⟨y0, y1, y2, y3, y4, y5, y6, y7, y8⟩ := HX.out.nine
    go_wp2_with fail
    go_ret
    exact ⟨rfl, HB.out⟩
  · have h1i : ¬ (k.len : Int) = 1 := by omega
    have HF : Hid (o_isTag ⟨9, b, neg, dig, exp, u, wd, s⟩ k.len = false) := Lib.hid (by simp [o_isTag, j_isTag, h1])
    have HX := Lib.hid (Nx.new w ⟨9, b, neg, dig, exp, u, wd, s⟩ (.slice A k.len c))
    have HB := Lib.hid (below_a (Below.refl _ w) (.cells ((⟨9, b, neg, dig, exp, u, wd, s⟩ : Hd).cells (.slice A k.len c)) 27))
    obtain ⟨y0, y1, y2, y3, y4, y5, y6, y7, y8⟩ := HX.out.nine
    simp only [Hd.cells]
    go_enter Tryz.func36, Tryz.ntmps36
    go_wp2_with fail
    go_ret
    exact ⟨by rw [HF.out]; first | rfl | (show Ending.returned (Value.bool _) = Ending.returned (Value.bool _); simp [*]), HB.out⟩
set_option maxRecDepth 100000 in
set_option maxHeartbeats 1000000 in
theorem rOwn_10 (b neg : Bool) (dig : ByteArray) (exp : Int) (u : Nat) (wd : Int) (s : ByteArray) (k : Fo) (v : Value) (w : World) (hk : Kd An w v k) : Calls Tryz.prog 36 #[.agg ((⟨10, b, neg, dig, exp, u, wd, s⟩ : Hd).cells v)] w (BolP (o_isSimple ⟨10, b, neg, dig, exp, u, wd, s⟩ k.len) w) := by
  obtain ⟨A, c, rfl, _, _, _⟩ := hk.form
  have HK := Lib.hid hk
  clear hk
  by_cases h0 : k.len = 0
  · obtain rfl := len_nil h0
    simp only [Fo.len] at HK ⊢
    clear h0
    obtain ⟨R, hR⟩ : ∃ R, R = sameH ⟨10, b, neg, dig, exp, u, wd, s⟩ ⟨10, false, false, ⟨#[]⟩, 0, u, 0, ⟨#[]⟩⟩ := ⟨_, rfl⟩
    have HO : Hid (∀ W, Below w.heap.size w W → Calls Tryz.prog 61 #[.agg #[.int .i64 10, .bool b, .bool neg, .string dig, .int .i64 exp, .int .u64 (u : Int), .int .i64 wd, .string s, .slice A 0 c], .agg #[.int .i64 0, .bool false, .bool false, .string ⟨#[]⟩, .int .i64 0, .int .u64 (u : Int), .int .i64 0, .string ⟨#[]⟩, .slice none 0 0]] W (BolP R W)) := Lib.hid (fun W hW => by
      rw [hR]
      exact rOnly_calls ⟨10, b, neg, dig, exp, u, wd, s⟩ ⟨0, false, false, ⟨#[]⟩, 0, u, 0, ⟨#[]⟩⟩ _ _ none 0 0 W (HK.out.below hW))
    have HX := Lib.hid (Nx.new w ⟨10, b, neg, dig, exp, u, wd, s⟩ (.slice A 0 c))
    have HB := Lib.hid (below_a (Below.refl _ w) (.cells ((⟨10, b, neg, dig, exp, u, wd, s⟩ : Hd).cells (.slice A 0 c)) 27))
    obtain ⟨y0, y1, y2, y3, y4, y5, y6, y7, y8⟩ := HX.out.nine

    simp only [Hd.cells]
    go_enter Tryz.func36, Tryz.ntmps36
    go_wp2_with fail
    refine (HO.out _ HB.out).mono ?_
    rintro o w1 ⟨rfl, hb1⟩
    replace HB := Lib.hid (below_nx HB.out hb1)
    replace HX := Lib.hid (HX.out.below hb1)
    clear hb1 y0 y1 y2 y3 y4 y5 y6 y7 y8
    obtain ⟨y0, y1, y2, y3, y4, y5, y6, y7, y8⟩ := HX.out.nine
    have HF : Hid (o_isSimple ⟨10, b, neg, dig, exp, u, wd, s⟩ 0 = (R && simpleN u)) := Lib.hid (by rw [o_isSimple, j_isSimple, hR]; simp)
    clear hR
    by_cases g1 : u ≤ 19
    · have g1i : (u : Int) ≤ 19 := by omega
      rw [show simpleN u = true by simp [simpleN]; omega] at HF
      cases R with
      | true =>
        go_wp2_with fail
        go_ret
        exact ⟨by rw [HF.out]; first | rfl | (show Ending.returned (Value.bool _) = Ending.returned (Value.bool _); simp [*]), HB.out⟩
      | false =>
        go_wp2_with fail
        go_ret
        exact ⟨by rw [HF.out]; first | rfl | (show Ending.returned (Value.bool _) = Ending.returned (Value.bool _); simp [*]), HB.out⟩
    · have g1i : ¬ (u : Int) ≤ 19 := by omega
      by_cases g2 : u = 23
      · subst g2
        rw [show simpleN 23 = true by decide] at HF
        cases R with
        | true =>
          go_wp2_with fail
          go_ret
          exact ⟨by rw [HF.out]; first | rfl | (show Ending.returned (Value.bool _) = Ending.returned (Value.bool _); simp [*]), HB.out⟩
        | false =>
          go_wp2_with fail
          go_ret
          exact ⟨by rw [HF.out]; first | rfl | (show Ending.returned (Value.bool _) = Ending.returned (Value.bool _); simp [*]), HB.out⟩
      · have g2i : ¬ (u : Int) = 23 := by omega
        by_cases g3 : 32 ≤ u
        · have g3i : (32 : Int) ≤ (u : Int) := by omega
          by_cases g4 : u ≤ 255
          · have g4i : (u : Int) ≤ 255 := by omega
            rw [show simpleN u = true by simp [simpleN]; omega] at HF
            cases R with
            | true =>
              go_wp2_with fail
              go_ret
              exact ⟨by rw [HF.out]; first | rfl | (show Ending.returned (Value.bool _) = Ending.returned (Value.bool _); simp [*]), HB.out⟩
            | false =>
              go_wp2_with fail
              go_ret
              exact ⟨by rw [HF.out]; first | rfl | (show Ending.returned (Value.bool _) = Ending.returned (Value.bool _); simp [*]), HB.out⟩
          · have g4i : ¬ (u : Int) ≤ 255 := by omega
            rw [show simpleN u = false by simp [simpleN]; omega] at HF
            cases R with
            | true =>
              go_wp2_with fail
              go_ret
              exact ⟨by rw [HF.out]; first | rfl | (show Ending.returned (Value.bool _) = Ending.returned (Value.bool _); simp [*]), HB.out⟩
            | false =>
              go_wp2_with fail
              go_ret
              exact ⟨by rw [HF.out]; first | rfl | (show Ending.returned (Value.bool _) = Ending.returned (Value.bool _); simp [*]), HB.out⟩
        · have g3i : ¬ (32 : Int) ≤ (u : Int) := by omega
          rw [show simpleN u = false by simp [simpleN]; omega] at HF
          cases R with
          | true =>
            go_wp2_with fail
            go_ret
            exact ⟨by rw [HF.out]; first | rfl | (show Ending.returned (Value.bool _) = Ending.returned (Value.bool _); simp [*]), HB.out⟩
          | false =>
            go_wp2_with fail
            go_ret
            exact ⟨by rw [HF.out]; first | rfl | (show Ending.returned (Value.bool _) = Ending.returned (Value.bool _); simp [*]), HB.out⟩
  · have hne : ¬ (k.len : Int) = 0 := by omega
    have HF : Hid (o_isSimple ⟨10, b, neg, dig, exp, u, wd, s⟩ k.len = false) := Lib.hid (by simp [o_isSimple, j_isSimple, h0])
    clear HK
    have HX := Lib.hid (Nx.new w ⟨10, b, neg, dig, exp, u, wd, s⟩ (.slice A k.len c))
    have HB := Lib.hid (below_a (Below.refl _ w) (.cells ((⟨10, b, neg, dig, exp, u, wd, s⟩ : Hd).cells (.slice A k.len c)) 27))
    obtain ⟨y0, y1, y2, y3, y4, y5, y6, y7, y8⟩ := HX.out.nine

    simp only [Hd.cells]
    go_enter Tryz.func36, Tryz.ntmps36
    go_wp2_with fail
    go_ret
    exact ⟨by rw [HF.out]; first | rfl | (show Ending.returned (Value.bool _) = Ending.returned (Value.bool _); simp [*]), HB.out⟩
set_option maxRecDepth 100000 in
set_option maxHeartbeats 1000000 in
theorem rOwn_11 (b neg : Bool) (dig : ByteArray) (exp : Int) (u : Nat) (wd : Int) (s : ByteArray) (k : Fo) (v : Value) (w : World) (hk : Kd An w v k) : Calls Tryz.prog 36 #[.agg ((⟨11, b, neg, dig, exp, u, wd, s⟩ : Hd).cells v)] w (BolP (o_isExt ⟨11, b, neg, dig, exp, u, wd, s⟩ k.len) w) := by
  obtain ⟨A, c, rfl, _, _, _⟩ := hk.form
  have HK := Lib.hid hk
  clear hk
  by_cases h0 : k.len = 0
  · obtain rfl := len_nil h0
    simp only [Fo.len] at HK ⊢
    clear h0
    obtain ⟨R, hR⟩ : ∃ R, R = sameH ⟨11, b, neg, dig, exp, u, wd, s⟩ ⟨11, false, false, ⟨#[]⟩, 0, u, 0, s⟩ := ⟨_, rfl⟩
    have HO : Hid (∀ W, Below w.heap.size w W → Calls Tryz.prog 61 #[.agg #[.int .i64 11, .bool b, .bool neg, .string dig, .int .i64 exp, .int .u64 (u : Int), .int .i64 wd, .string s, .slice A 0 c], .agg #[.int .i64 0, .bool false, .bool false, .string ⟨#[]⟩, .int .i64 0, .int .u64 (u : Int), .int .i64 0, .string s, .slice none 0 0]] W (BolP R W)) := Lib.hid (fun W hW => by
      rw [hR]
      exact rOnly_calls ⟨11, b, neg, dig, exp, u, wd, s⟩ ⟨0, false, false, ⟨#[]⟩, 0, u, 0, s⟩ _ _ none 0 0 W (HK.out.below hW))
    have HX := Lib.hid (Nx.new w ⟨11, b, neg, dig, exp, u, wd, s⟩ (.slice A 0 c))
    have HB := Lib.hid (below_a (Below.refl _ w) (.cells ((⟨11, b, neg, dig, exp, u, wd, s⟩ : Hd).cells (.slice A 0 c)) 27))
    obtain ⟨y0, y1, y2, y3, y4, y5, y6, y7, y8⟩ := HX.out.nine

    simp only [Hd.cells]
    go_enter Tryz.func36, Tryz.ntmps36
    go_wp2_with fail
    refine (HO.out _ HB.out).mono ?_
    rintro o w1 ⟨rfl, hb1⟩
    replace HB := Lib.hid (below_nx HB.out hb1)
    replace HX := Lib.hid (HX.out.below hb1)
    clear hb1 y0 y1 y2 y3 y4 y5 y6 y7 y8
    obtain ⟨y0, y1, y2, y3, y4, y5, y6, y7, y8⟩ := HX.out.nine
    have HF : Hid (o_isExt ⟨11, b, neg, dig, exp, u, wd, s⟩ 0 = (R && (decide (u ≤ 255) && decide (s.size ≤ 400)))) := Lib.hid (by rw [o_isExt, j_isExt, hR]; simp)
    clear hR
    by_cases g1 : u ≤ 255
    · have g1i : (u : Int) ≤ 255 := by omega
      by_cases g2 : s.size ≤ 400
      · have g2i : (s.size : Int) ≤ 400 := by omega
        rw [decide_eq_true g1, decide_eq_true g2] at HF
        cases R with
        | true =>
          go_wp2_with fail
          go_ret
          exact ⟨by rw [HF.out]; first | rfl | (show Ending.returned (Value.bool _) = Ending.returned (Value.bool _); simp [*]), HB.out⟩
        | false =>
          go_wp2_with fail
          go_ret
          exact ⟨by rw [HF.out]; first | rfl | (show Ending.returned (Value.bool _) = Ending.returned (Value.bool _); simp [*]), HB.out⟩
      · have g2i : ¬ (s.size : Int) ≤ 400 := by omega
        rw [decide_eq_true g1, decide_eq_false g2] at HF
        cases R with
        | true =>
          go_wp2_with fail
          go_ret
          exact ⟨by rw [HF.out]; first | rfl | (show Ending.returned (Value.bool _) = Ending.returned (Value.bool _); simp [*]), HB.out⟩
        | false =>
          go_wp2_with fail
          go_ret
          exact ⟨by rw [HF.out]; first | rfl | (show Ending.returned (Value.bool _) = Ending.returned (Value.bool _); simp [*]), HB.out⟩
    · have g1i : ¬ (u : Int) ≤ 255 := by omega
      rw [decide_eq_false g1] at HF
      cases R with
      | true =>
        go_wp2_with fail
        go_ret
        exact ⟨by rw [HF.out]; first | rfl | (show Ending.returned (Value.bool _) = Ending.returned (Value.bool _); simp [*]), HB.out⟩
      | false =>
        go_wp2_with fail
        go_ret
        exact ⟨by rw [HF.out]; first | rfl | (show Ending.returned (Value.bool _) = Ending.returned (Value.bool _); simp [*]), HB.out⟩
  · have hne : ¬ (k.len : Int) = 0 := by omega
    have HF : Hid (o_isExt ⟨11, b, neg, dig, exp, u, wd, s⟩ k.len = false) := Lib.hid (by simp [o_isExt, j_isExt, h0])
    clear HK
    have HX := Lib.hid (Nx.new w ⟨11, b, neg, dig, exp, u, wd, s⟩ (.slice A k.len c))
    have HB := Lib.hid (below_a (Below.refl _ w) (.cells ((⟨11, b, neg, dig, exp, u, wd, s⟩ : Hd).cells (.slice A k.len c)) 27))
    obtain ⟨y0, y1, y2, y3, y4, y5, y6, y7, y8⟩ := HX.out.nine

    simp only [Hd.cells]
    go_enter Tryz.func36, Tryz.ntmps36
    go_wp2_with fail
    go_ret
    exact ⟨by rw [HF.out]; first | rfl | (show Ending.returned (Value.bool _) = Ending.returned (Value.bool _); simp [*]), HB.out⟩
set_option maxRecDepth 100000 in
set_option maxHeartbeats 1000000 in
theorem rOwn_4 (b neg : Bool) (dig : ByteArray) (exp : Int) (u : Nat) (wd : Int) (s : ByteArray) (k : Fo) (v : Value) (w : World) (hk : Kd An w v k) : Calls Tryz.prog 36 #[.agg ((⟨4, b, neg, dig, exp, u, wd, s⟩ : Hd).cells v)] w (BolP (o_isFloat ⟨4, b, neg, dig, exp, u, wd, s⟩ k.len) w) := by
  obtain ⟨A, c, rfl, _, _, _⟩ := hk.form
  have HK := Lib.hid hk
  clear hk
  by_cases h0 : k.len = 0
  · obtain rfl := len_nil h0
    simp only [Fo.len] at HK ⊢
    clear h0
    obtain ⟨R, hR⟩ : ∃ R, R = sameH ⟨4, b, neg, dig, exp, u, wd, s⟩ ⟨4, false, false, ⟨#[]⟩, 0, u, wd, ⟨#[]⟩⟩ := ⟨_, rfl⟩
    have HO : Hid (∀ W, Below w.heap.size w W → Calls Tryz.prog 61 #[.agg #[.int .i64 4, .bool b, .bool neg, .string dig, .int .i64 exp, .int .u64 (u : Int), .int .i64 wd, .string s, .slice A 0 c], .agg #[.int .i64 0, .bool false, .bool false, .string ⟨#[]⟩, .int .i64 0, .int .u64 (u : Int), .int .i64 wd, .string ⟨#[]⟩, .slice none 0 0]] W (BolP R W)) := Lib.hid (fun W hW => by
      rw [hR]
      exact rOnly_calls ⟨4, b, neg, dig, exp, u, wd, s⟩ ⟨0, false, false, ⟨#[]⟩, 0, u, wd, ⟨#[]⟩⟩ _ _ none 0 0 W (HK.out.below hW))
    have HX := Lib.hid (Nx.new w ⟨4, b, neg, dig, exp, u, wd, s⟩ (.slice A 0 c))
    have HB := Lib.hid (below_a (Below.refl _ w) (.cells ((⟨4, b, neg, dig, exp, u, wd, s⟩ : Hd).cells (.slice A 0 c)) 27))
    obtain ⟨y0, y1, y2, y3, y4, y5, y6, y7, y8⟩ := HX.out.nine
    obtain ⟨O, hO⟩ : ∃ O, O = widO u wd := ⟨_, rfl⟩
    have HWi : Hid (∀ W, Calls Tryz.prog 41 #[.int .u64 (u : Int), .int .i64 wd] W (WidP O W)) := Lib.hid (fun W => by rw [hO]; exact rWiden_calls u wd W)
    simp only [Hd.cells]
    go_enter Tryz.func36, Tryz.ntmps36
    go_wp2_with fail
    refine (HWi.out _).mono ?_
    rintro o w2 ⟨rfl, hb2⟩
    replace HB := Lib.hid (below_nx HB.out hb2)
    replace HX := Lib.hid (HX.out.below hb2)
    clear hb2 y0 y1 y2 y3 y4 y5 y6 y7 y8
    obtain ⟨y0, y1, y2, y3, y4, y5, y6, y7, y8⟩ := HX.out.nine
    have HF : Hid (o_isFloat ⟨4, b, neg, dig, exp, u, wd, s⟩ 0 = (O.isSome && R)) := Lib.hid (by rw [o_isFloat, j_isFloat, hR, hO]; simp)
    clear hR hO
    cases O with
    | none =>
      simp only [Option.getD_none, Option.isSome_none, Bool.false_eq_true, if_false]
      go_wp2_with fail
      refine (HO.out _ HB.out).mono ?_
      rintro o w1 ⟨rfl, hb1⟩
      replace HB := Lib.hid (below_nx HB.out hb1)
      replace HX := Lib.hid (HX.out.below hb1)
      clear hb1 y0 y1 y2 y3 y4 y5 y6 y7 y8
      obtain ⟨y0, y1, y2, y3, y4, y5, y6, y7, y8⟩ := HX.out.nine
      cases R with
      | true =>
        go_wp2_with fail
        go_ret
        exact ⟨by rw [HF.out]; first | rfl | (show Ending.returned (Value.bool _) = Ending.returned (Value.bool _); simp [*]), HB.out⟩
      | false =>
        go_wp2_with fail
        go_ret
        exact ⟨by rw [HF.out]; first | rfl | (show Ending.returned (Value.bool _) = Ending.returned (Value.bool _); simp [*]), HB.out⟩
    | some a =>
      simp only [Option.getD_some, Option.isSome_some, if_true]
      go_wp2_with fail
      refine (HO.out _ HB.out).mono ?_
      rintro o w1 ⟨rfl, hb1⟩
      replace HB := Lib.hid (below_nx HB.out hb1)
      replace HX := Lib.hid (HX.out.below hb1)
      clear hb1 y0 y1 y2 y3 y4 y5 y6 y7 y8
      obtain ⟨y0, y1, y2, y3, y4, y5, y6, y7, y8⟩ := HX.out.nine
      cases R with
      | true =>
        go_wp2_with fail
        go_ret
        exact ⟨by rw [HF.out]; first | rfl | (show Ending.returned (Value.bool _) = Ending.returned (Value.bool _); simp [*]), HB.out⟩
      | false =>
        go_wp2_with fail
        go_ret
        exact ⟨by rw [HF.out]; first | rfl | (show Ending.returned (Value.bool _) = Ending.returned (Value.bool _); simp [*]), HB.out⟩
  · have hne : ¬ (k.len : Int) = 0 := by omega
    have HF : Hid (o_isFloat ⟨4, b, neg, dig, exp, u, wd, s⟩ k.len = false) := Lib.hid (by simp [o_isFloat, j_isFloat, h0])
    clear HK
    have HX := Lib.hid (Nx.new w ⟨4, b, neg, dig, exp, u, wd, s⟩ (.slice A k.len c))
    have HB := Lib.hid (below_a (Below.refl _ w) (.cells ((⟨4, b, neg, dig, exp, u, wd, s⟩ : Hd).cells (.slice A k.len c)) 27))
    obtain ⟨y0, y1, y2, y3, y4, y5, y6, y7, y8⟩ := HX.out.nine
    obtain ⟨O, hO⟩ : ∃ O, O = widO u wd := ⟨_, rfl⟩
    have HWi : Hid (∀ W, Calls Tryz.prog 41 #[.int .u64 (u : Int), .int .i64 wd] W (WidP O W)) := Lib.hid (fun W => by rw [hO]; exact rWiden_calls u wd W)
    simp only [Hd.cells]
    go_enter Tryz.func36, Tryz.ntmps36
    go_wp2_with fail
    refine (HWi.out _).mono ?_
    rintro o w2 ⟨rfl, hb2⟩
    replace HB := Lib.hid (below_nx HB.out hb2)
    replace HX := Lib.hid (HX.out.below hb2)
    clear hb2 y0 y1 y2 y3 y4 y5 y6 y7 y8
    obtain ⟨y0, y1, y2, y3, y4, y5, y6, y7, y8⟩ := HX.out.nine
    clear hO
    cases O with
    | none =>
      simp only [Option.getD_none, Option.isSome_none, Bool.false_eq_true, if_false]
      go_wp2_with fail
      go_ret
      exact ⟨by rw [HF.out]; first | rfl | (show Ending.returned (Value.bool _) = Ending.returned (Value.bool _); simp [*]), HB.out⟩
    | some a =>
      simp only [Option.getD_some, Option.isSome_some, if_true]
      go_wp2_with fail
      go_ret
      exact ⟨by rw [HF.out]; first | rfl | (show Ending.returned (Value.bool _) = Ending.returned (Value.bool _); simp [*]), HB.out⟩
set_option maxRecDepth 100000 in
set_option maxHeartbeats 1000000 in
theorem rOwn_no (h : Hd) (A : Option Addr) (n c : Nat) (w : World) (hn : ¬ (1 ≤ h.kind ∧ h.kind ≤ 11)) : Calls Tryz.prog 36 #[.agg (h.cells (.slice A n c))] w (BolP false w) := by
  have n1 : ¬ h.kind = 1 := by omega
  have n2 : ¬ h.kind = 2 := by omega
  have n3 : ¬ h.kind = 3 := by omega
  have n4 : ¬ h.kind = 4 := by omega
  have n5 : ¬ h.kind = 5 := by omega
  have n6 : ¬ h.kind = 6 := by omega
  have n7 : ¬ h.kind = 7 := by omega
  have n8 : ¬ h.kind = 8 := by omega
  have n9 : ¬ h.kind = 9 := by omega
  have n10 : ¬ h.kind = 10 := by omega
  have n11 : ¬ h.kind = 11 := by omega
  clear hn
  simp only [Hd.cells]
  go_enter Tryz.func36, Tryz.ntmps36
  go_wp2_with fail
  go_ret
  exact ⟨rfl, below_a (Below.refl _ _) _⟩
end Go.Proofs.YtcofhgdfoamhpaaGreatDoor
