/- The walk of the document's own Decode, its loops. -/
import Derived.Test.YtfmhpeeecejpbaaRd2
namespace Go.Proofs.Ytfmhpeeecejpbaa
open Go.RowKit

theorem cells3 (W : World) (a b c : Int) (m : Nat) : ∀ j u, ([Value.int .u8 a, .int .u8 b, .int .u8 c].take m)[j]? = some u → (W.alloc (.cells #[.int .u8 a, .int .u8 b, .int .u8 c] 5)).cell? ((⟨W.heap.size, 0, none⟩ : Addr).add j) = some u := by
  intro j u hj
  rw [List.getElem?_take] at hj
  split at hj
  · match j, hj with
    | 0, hj => simp at hj; subst hj; simp [Addr.add]
    | 1, hj => simp at hj; subst hj; simp [Addr.add]
    | 2, hj => simp at hj; subst hj; simp [Addr.add]
    | (j + 3), hj => simp at hj
  · cases hj
theorem one3 (a b c : Int) (m : Nat) : ∀ u ∈ [Value.int .u8 a, .int .u8 b, .int .u8 c].take m, u.oneCell' = true := by
  intro u hu
  have := List.mem_of_mem_take hu
  simp at this
  rcases this with rfl | rfl | rfl <;> rfl
theorem tre_enc {G : Nat} (h : G < 16777216) (m : Nat) : ((tre G).take m).map encB = [Value.int .u8 ((G : Int) / 65536), .int .u8 ((G : Int) / 256 % 256), .int .u8 ((G : Int) % 256)].take m := by
  rw [List.map_take]
  congr 1
  simp only [tre, List.map_cons, List.map_nil, encB]
  rw [u8_nat _ (by omega), u8_nat _ (by omega), u8_nat _ (by omega)]
  rfl
theorem row_app {W : World} {base : Nat} {v : Value} {A B C : List UInt8} {n : Nat} {xs : List Value} (h : W.ownsRow base 5 1 v (A.length + n) (A.map encB ++ xs)) (hB : B.map encB = xs) (hn : n = B.length) (hC : C = A ++ B) : W.ownsRow base 5 1 v C.length (C.map encB) := by
  subst hC hB hn
  rw [List.length_append, List.map_append]
  exact h

theorem number_yes (c : Nat) (w : World) (h : numb c < 64) : Calls Try.prog 24 #[.int .u8 (c : Int)] w fun e w' => e = .returned (.int .i64 (numb c : Int)) ∧ w = w' := by
  have := number_calls c w
  rw [numI_yes h] at this
  exact this
theorem number_no (c : Nat) (w : World) (h : ¬ numb c < 64) : Calls Try.prog 24 #[.int .u8 (c : Int)] w fun e w' => e = .returned (.int .i64 (-1)) ∧ w = w' := by
  have := number_calls c w
  rw [numI_no h] at this
  exact this

set_option maxRecDepth 100000 in
set_option maxHeartbeats 4000000 in
theorem rDecode_short (t : ByteArray) (w : World) (h1 : t.size % 4 ≠ 1) (h2 : t.size ≤ 540) : Calls Try.prog 14 #[.string t] w (DecPost t w) := by
  obtain ⟨i0, hi, hz0, hz1, hz2⟩ := info_parts info5
  have HI := Lib.hid hi
  have HZ0 := Lib.hid hz0
  have HZ1 := Lib.hid hz1
  have HZ2 := Lib.hid hz2
  have hb : ((t.size : Int) % 4 == 1) = false := by simp; omega
  have hb' : ¬ (t.size : Int) % 4 = 1 := by omega
  have hb2 : decide ((540 : Int) < (t.size : Int)) = false := by simp; omega
  clear hi hz0 hz1 hz2
  go_enter Try.func14, Try.ntmps14
  go_wp2
  clear hb hb' hb2
  go_loopw [4, 5] (fun v i wr => ∃ k : Nat, i = .int .i64 k ∧ k ≤ t.size + 3 ∧ k % 4 = 0 ∧ AL t k ∧ wr.ownsRow w.heap.size 5 1 v (raw (t.data.toList.take k)).length ((raw (t.data.toList.take k)).map encB) ∧ Below w.heap.size w wr) (fun _ i _ => t.size + 4 - (intOf i).toNat)
  case atStart => exact ⟨0, rfl, by omega, rfl, fun p hp => by omega, World.ownsRow_nil _ _ _ _, Below.refl _ _⟩
  case round =>
    obtain ⟨k, rfl, hk, hk4, hal, hown, hnx⟩ := hrel
    have HAL := Lib.hid hal
    have HO := Lib.hid hown
    have HN := Lib.hid hnx
    clear hal hown hnx
    by_cases hlt : k < t.size
    · have hkk : 2 ≤ t.size - k := by omega
      have hcase : 4 ≤ t.size - k ∨ t.size = k + 3 ∨ t.size = k + 2 := by omega
      rcases hcase with hc | hc | hc
      · have hsz : (4 : Int) ≤ (t.size : Int) - (k : Int) := by omega
        have hm : 4 = min 4 (t.size - k) := by omega
        have HM := Lib.hid hm
        clear hm hkk
        go_wp2
        go_loop [6, 8] (fun n j => ∃ q : Nat, j = .int .i64 q ∧ q ≤ 4 ∧ n = .int .i64 (gv t k q : Nat) ∧ Hid (AL t (k + q))) (fun _ j => 4 - (intOf j).toNat)
        case atStart => exact ⟨0, rfl, by omega, rfl, HAL⟩
        case round =>
          obtain ⟨q, rfl, hq, rfl, HA⟩ := hrel
          by_cases hq4 : q < 4
          · have hgv : gv t k q < 64 ^ 3 := Nat.lt_of_lt_of_le (HA.out.gv hq) (Nat.pow_le_pow_right (by omega) (by omega))
            obtain ⟨G, hG⟩ : ∃ G, G = gv t k q := ⟨_, rfl⟩
            rw [← hG] at hgv ⊢
            have hgv2 : G < 262144 := hgv
            have HG := Lib.hid hG
            clear hG hgv
            by_cases hqm : q < 4
            · obtain ⟨p, hp⟩ : ∃ p, p = k + q := ⟨_, rfl⟩
              have hpi : (k : Int) + (q : Int) = (p : Int) := by omega
              have hpl : p < t.size := by omega
              have hpv : (t[p]'hpl).toNat = (byteAt t p).toNat := by rw [byteAt_eq t p hpl]
              have hpb : (byteAt t p).toNat < 256 := (byteAt t p).toNat_lt
              by_cases hnb : numb (byteAt t p).toNat < 64
              · obtain ⟨D, hD⟩ : ∃ D, D = numb (byteAt t p).toNat := ⟨_, rfl⟩
                have hDl : D < 64 := by omega
                have HNC := Lib.hid (fun w => number_yes (byteAt t p).toNat w hnb)
                rw [← hD] at HNC
                have HE : Hid (gv t k (q + 1) = 64 * G + D) := Lib.hid (by rw [gv, ← HG.out, dg, ← hp, if_pos hpl, hD])
                have HA2 : Hid (AL t (k + (q + 1))) := Lib.hid (fun x hx hx2 => by
                  rcases Nat.lt_or_ge x (k + q) with h | h
                  · exact HA.out x h hx2
                  · obtain rfl : x = p := by omega
                    exact hnb)
                clear hp hnb hD
                go_wp2_with (go_at_call 24; refine (HNC.out _).mono ?_; rintro e w' ⟨rfl, rfl⟩)
                go_round
                case rel => exact ⟨q + 1, by go_num, by omega, by rw [HE.out]; go_num, HA2⟩
                case measure => simp [intOf]; omega
              · have HNC := Lib.hid (fun w => number_no (byteAt t p).toNat w hnb)
                have HX := Lib.hid (not_letter hpl hnb)
                clear hp hnb
                go_wp2_with (go_at_call 24; refine (HNC.out _).mono ?_; rintro e w' ⟨rfl, rfl⟩)
                go_ret2
                exact dec_no HX.out HN.out
            · exact absurd hq4 hqm
          · obtain rfl : q = 4 := by omega
            have hgv : gv t k 4 < 16777216 := HA.out.gv hq
            have HR := Lib.hid (raw_step t k 4 hk4 HM.out (by omega) HA.out)
            obtain ⟨G, hG⟩ : ∃ G, G = gv t k 4 := ⟨_, rfl⟩
            rw [← hG] at hgv HR ⊢
            clear hG
            have hrl := raw_len (t.data.toList.take k)
            rw [List.length_take, size_data] at hrl
            have hrl2 : (raw (t.data.toList.take k)).length ≤ 600 := by omega
            have HTE := Lib.hid (tre_enc hgv 3)
            clear hrl
            go_wp2_with (at_builtin; refine wpList_append_own _ rfl (.tmp 52) (.tmp 64) 35 rfl w.heap.size 5 i0 (.int .u8 0) 1 1 Try.underlying35 HI.out HZ0.out HZ1.out HZ2.out rfl (by decide) _ _ _ rfl (HO.out.alloc _) ⟨wr.heap.size, 0, none⟩ 3 3 ([Value.int .u8 ((G : Int) / 65536), .int .u8 ((G : Int) / 256 % 256), .int .u8 ((G : Int) % 256)].take 3) rfl rfl (cells3 _ _ _ _ _) (one3 _ _ _ _) (by unfold maxLen; omega) (by omega) (by have := HN.out.size; simp; omega) ?_; intro v' w3 hown3 hg3 hnil)
            have HO3 := Lib.hid hown3
            have HB3 := Lib.hid ((HN.out.alloc HN.out.size _).grown hg3 (by have := HN.out.size; simp; omega) (fun k e => (HO.out.lt k e).1))
            clear hown3 hg3 hnil
            go_roundw
            case rel =>
              refine ⟨k + 4, by go_num, by omega, by omega, HA.out, ?_, HB3.out⟩
              exact row_app HO3.out HTE.out (by simp [tre]) HR.out
            case measure => simp [intOf]; omega
      · have hsz : (t.size : Int) - (k : Int) = 3 := by omega
        have hm : 3 = min 4 (t.size - k) := by omega
        have HM := Lib.hid hm
        have hca : k + 3 ≤ t.size := by omega
        have hcb : t.size ≤ k + 3 := by omega
        clear hm hkk hc
        go_wp2
        clear hsz
        go_loop [6, 8] (fun n j => ∃ q : Nat, j = .int .i64 q ∧ q ≤ 4 ∧ n = .int .i64 (gv t k q : Nat) ∧ Hid (AL t (k + q))) (fun _ j => 4 - (intOf j).toNat)
        case atStart => exact ⟨0, rfl, by omega, rfl, HAL⟩
        case round =>
          obtain ⟨q, rfl, hq, rfl, HA⟩ := hrel
          by_cases hq4 : q < 4
          · have hgv : gv t k q < 64 ^ 3 := Nat.lt_of_lt_of_le (HA.out.gv hq) (Nat.pow_le_pow_right (by omega) (by omega))
            obtain ⟨G, hG⟩ : ∃ G, G = gv t k q := ⟨_, rfl⟩
            rw [← hG] at hgv ⊢
            have hgv2 : G < 262144 := hgv
            have HG := Lib.hid hG
            clear hG hgv
            by_cases hqm : q < 3
            · obtain ⟨p, hp⟩ : ∃ p, p = k + q := ⟨_, rfl⟩
              have hpi : (k : Int) + (q : Int) = (p : Int) := by omega
              have hpl : p < t.size := by omega
              have hpv : (t[p]'hpl).toNat = (byteAt t p).toNat := by rw [byteAt_eq t p hpl]
              have hpb : (byteAt t p).toNat < 256 := (byteAt t p).toNat_lt
              by_cases hnb : numb (byteAt t p).toNat < 64
              · obtain ⟨D, hD⟩ : ∃ D, D = numb (byteAt t p).toNat := ⟨_, rfl⟩
                have hDl : D < 64 := by omega
                have HNC := Lib.hid (fun w => number_yes (byteAt t p).toNat w hnb)
                rw [← hD] at HNC
                have HE : Hid (gv t k (q + 1) = 64 * G + D) := Lib.hid (by rw [gv, ← HG.out, dg, ← hp, if_pos hpl, hD])
                have HA2 : Hid (AL t (k + (q + 1))) := Lib.hid (fun x hx hx2 => by
                  rcases Nat.lt_or_ge x (k + q) with h | h
                  · exact HA.out x h hx2
                  · obtain rfl : x = p := by omega
                    exact hnb)
                clear hp hnb hD
                go_wp2_with (go_at_call 24; refine (HNC.out _).mono ?_; rintro e w' ⟨rfl, rfl⟩)
                go_round
                case rel => exact ⟨q + 1, by go_num, by omega, by rw [HE.out]; go_num, HA2⟩
                case measure => simp [intOf]; omega
              · have HNC := Lib.hid (fun w => number_no (byteAt t p).toNat w hnb)
                have HX := Lib.hid (not_letter hpl hnb)
                clear hp hnb
                go_wp2_with (go_at_call 24; refine (HNC.out _).mono ?_; rintro e w' ⟨rfl, rfl⟩)
                go_ret2
                exact dec_no HX.out HN.out
            · have HE : Hid (gv t k (q + 1) = 64 * G) := Lib.hid (by rw [gv, ← HG.out, dg, if_neg (by have := HM.out; omega), Nat.add_zero])
              have HA2 : Hid (AL t (k + (q + 1))) := Lib.hid (fun x hx hx2 => HA.out x (by have := HM.out; omega) hx2)
              go_wp2
              go_round
              case rel => exact ⟨q + 1, by go_num, by omega, by rw [HE.out]; go_num, HA2⟩
              case measure => simp [intOf]; omega
          · obtain rfl : q = 4 := by omega
            have hgv : gv t k 4 < 16777216 := HA.out.gv hq
            have HR := Lib.hid (raw_step t k 3 hk4 HM.out (by omega) HA.out)
            obtain ⟨G, hG⟩ : ∃ G, G = gv t k 4 := ⟨_, rfl⟩
            rw [← hG] at hgv HR ⊢
            clear hG
            have hrl := raw_len (t.data.toList.take k)
            rw [List.length_take, size_data] at hrl
            have hrl2 : (raw (t.data.toList.take k)).length ≤ 600 := by omega
            have HTE := Lib.hid (tre_enc hgv 2)
            clear hrl
            go_wp2_with (at_builtin; refine wpList_append_own _ rfl (.tmp 52) (.tmp 64) 35 rfl w.heap.size 5 i0 (.int .u8 0) 1 1 Try.underlying35 HI.out HZ0.out HZ1.out HZ2.out rfl (by decide) _ _ _ rfl (HO.out.alloc _) ⟨wr.heap.size, 0, none⟩ 2 3 ([Value.int .u8 ((G : Int) / 65536), .int .u8 ((G : Int) / 256 % 256), .int .u8 ((G : Int) % 256)].take 2) rfl rfl (cells3 _ _ _ _ _) (one3 _ _ _ _) (by unfold maxLen; omega) (by omega) (by have := HN.out.size; simp; omega) ?_; intro v' w3 hown3 hg3 hnil)
            have HO3 := Lib.hid hown3
            have HB3 := Lib.hid ((HN.out.alloc HN.out.size _).grown hg3 (by have := HN.out.size; simp; omega) (fun k e => (HO.out.lt k e).1))
            clear hown3 hg3 hnil
            go_roundw
            case rel =>
              refine ⟨k + 4, by go_num, by omega, by omega, HA.out, ?_, HB3.out⟩
              exact row_app HO3.out HTE.out (by simp [tre]) HR.out
            case measure => simp [intOf]; omega
      · have hsz : (t.size : Int) - (k : Int) = 2 := by omega
        have hm : 2 = min 4 (t.size - k) := by omega
        have HM := Lib.hid hm
        have hca : k + 2 ≤ t.size := by omega
        have hcb : t.size ≤ k + 2 := by omega
        clear hm hkk hc
        go_wp2
        clear hsz
        go_loop [6, 8] (fun n j => ∃ q : Nat, j = .int .i64 q ∧ q ≤ 4 ∧ n = .int .i64 (gv t k q : Nat) ∧ Hid (AL t (k + q))) (fun _ j => 4 - (intOf j).toNat)
        case atStart => exact ⟨0, rfl, by omega, rfl, HAL⟩
        case round =>
          obtain ⟨q, rfl, hq, rfl, HA⟩ := hrel
          by_cases hq4 : q < 4
          · have hgv : gv t k q < 64 ^ 3 := Nat.lt_of_lt_of_le (HA.out.gv hq) (Nat.pow_le_pow_right (by omega) (by omega))
            obtain ⟨G, hG⟩ : ∃ G, G = gv t k q := ⟨_, rfl⟩
            rw [← hG] at hgv ⊢
            have hgv2 : G < 262144 := hgv
            have HG := Lib.hid hG
            clear hG hgv
            by_cases hqm : q < 2
            · obtain ⟨p, hp⟩ : ∃ p, p = k + q := ⟨_, rfl⟩
              have hpi : (k : Int) + (q : Int) = (p : Int) := by omega
              have hpl : p < t.size := by omega
              have hpv : (t[p]'hpl).toNat = (byteAt t p).toNat := by rw [byteAt_eq t p hpl]
              have hpb : (byteAt t p).toNat < 256 := (byteAt t p).toNat_lt
              by_cases hnb : numb (byteAt t p).toNat < 64
              · obtain ⟨D, hD⟩ : ∃ D, D = numb (byteAt t p).toNat := ⟨_, rfl⟩
                have hDl : D < 64 := by omega
                have HNC := Lib.hid (fun w => number_yes (byteAt t p).toNat w hnb)
                rw [← hD] at HNC
                have HE : Hid (gv t k (q + 1) = 64 * G + D) := Lib.hid (by rw [gv, ← HG.out, dg, ← hp, if_pos hpl, hD])
                have HA2 : Hid (AL t (k + (q + 1))) := Lib.hid (fun x hx hx2 => by
                  rcases Nat.lt_or_ge x (k + q) with h | h
                  · exact HA.out x h hx2
                  · obtain rfl : x = p := by omega
                    exact hnb)
                clear hp hnb hD
                go_wp2_with (go_at_call 24; refine (HNC.out _).mono ?_; rintro e w' ⟨rfl, rfl⟩)
                go_round
                case rel => exact ⟨q + 1, by go_num, by omega, by rw [HE.out]; go_num, HA2⟩
                case measure => simp [intOf]; omega
              · have HNC := Lib.hid (fun w => number_no (byteAt t p).toNat w hnb)
                have HX := Lib.hid (not_letter hpl hnb)
                clear hp hnb
                go_wp2_with (go_at_call 24; refine (HNC.out _).mono ?_; rintro e w' ⟨rfl, rfl⟩)
                go_ret2
                exact dec_no HX.out HN.out
            · have HE : Hid (gv t k (q + 1) = 64 * G) := Lib.hid (by rw [gv, ← HG.out, dg, if_neg (by have := HM.out; omega), Nat.add_zero])
              have HA2 : Hid (AL t (k + (q + 1))) := Lib.hid (fun x hx hx2 => HA.out x (by have := HM.out; omega) hx2)
              go_wp2
              go_round
              case rel => exact ⟨q + 1, by go_num, by omega, by rw [HE.out]; go_num, HA2⟩
              case measure => simp [intOf]; omega
          · obtain rfl : q = 4 := by omega
            have hgv : gv t k 4 < 16777216 := HA.out.gv hq
            have HR := Lib.hid (raw_step t k 2 hk4 HM.out (by omega) HA.out)
            obtain ⟨G, hG⟩ : ∃ G, G = gv t k 4 := ⟨_, rfl⟩
            rw [← hG] at hgv HR ⊢
            clear hG
            have hrl := raw_len (t.data.toList.take k)
            rw [List.length_take, size_data] at hrl
            have hrl2 : (raw (t.data.toList.take k)).length ≤ 600 := by omega
            have HTE := Lib.hid (tre_enc hgv 1)
            clear hrl
            go_wp2_with (at_builtin; refine wpList_append_own _ rfl (.tmp 52) (.tmp 64) 35 rfl w.heap.size 5 i0 (.int .u8 0) 1 1 Try.underlying35 HI.out HZ0.out HZ1.out HZ2.out rfl (by decide) _ _ _ rfl (HO.out.alloc _) ⟨wr.heap.size, 0, none⟩ 1 3 ([Value.int .u8 ((G : Int) / 65536), .int .u8 ((G : Int) / 256 % 256), .int .u8 ((G : Int) % 256)].take 1) rfl rfl (cells3 _ _ _ _ _) (one3 _ _ _ _) (by unfold maxLen; omega) (by omega) (by have := HN.out.size; simp; omega) ?_; intro v' w3 hown3 hg3 hnil)
            have HO3 := Lib.hid hown3
            have HB3 := Lib.hid ((HN.out.alloc HN.out.size _).grown hg3 (by have := HN.out.size; simp; omega) (fun k e => (HO.out.lt k e).1))
            clear hown3 hg3 hnil
            go_roundw
            case rel =>
              refine ⟨k + 4, by go_num, by omega, by omega, HA.out, ?_, HB3.out⟩
              exact row_app HO3.out HTE.out (by simp [tre]) HR.out
            case measure => simp [intOf]; omega
    · have HT : Hid (t.data.toList.take k = t.data.toList) := Lib.hid (List.take_of_length_le (by rw [size_data]; omega))
      obtain ⟨R, hR⟩ : ∃ R : ByteArray, R = ⟨(raw t.data.toList).toArray⟩ := ⟨_, rfl⟩
      have hRd : R.data.toList = raw t.data.toList := by rw [hR]
      have hcv0 := conv_own HO.out
      rw [HT.out, ← hR] at hcv0
      by_cases hl : R.size ≤ 400
      · have HC := Lib.hid (fun w => rCode_yes R w hl)
        obtain ⟨C, hC⟩ : ∃ C : ByteArray, C = ⟨(code R.data.toList).toArray⟩ := ⟨_, rfl⟩
        have hCd : C.data.toList = code (raw t.data.toList) := by rw [hC, ← hRd]
        rw [← hC] at HC
        by_cases hq : C.data.toList = t.data.toList
        · have hb : (C.toList == t.toList) = true := by rw [Lib.toList_data, Lib.toList_data, hq]; simp
          have HX : Hid (isCode t.data.toList = true) := Lib.hid (isCode_iff.2 ⟨raw t.data.toList, by rw [← hRd, size_data]; exact hl, by rw [← hCd, hq]⟩)
          have HRR := Lib.hid hR
          clear hR hRd hC hCd hq
          go_wp2_with (go_at_call 12; refine (HC.out _).mono ?_; rintro e w2 ⟨rfl, hb2⟩)
          go_ret2
          exact ⟨.inl ⟨HX.out, by rw [← HRR.out]; rfl⟩, HN.out.trans (hb2.mono HN.out.size)⟩
        · have hb : (C.toList == t.toList) = false := by rw [Lib.toList_data, Lib.toList_data]; exact beq_eq_false_iff_ne.2 hq
          have hb' : ¬ C.toList = t.toList := by rw [Lib.toList_data, Lib.toList_data]; exact hq
          have HX : Hid (isCode t.data.toList = false) := Lib.hid (by
            rw [Bool.eq_false_iff]
            intro h
            exact hq (by rw [hCd, (isCode_raw h).1]))
          clear hR hRd hC hCd hq
          go_wp2_with (go_at_call 12; refine (HC.out _).mono ?_; rintro e w2 ⟨rfl, hb2⟩)
          go_ret2
          exact dec_no HX.out (HN.out.trans (hb2.mono HN.out.size))
      · have HC := Lib.hid (fun w => rCode_no R w (by omega))
        have HX : Hid (isCode t.data.toList = false) := Lib.hid (by
          rw [Bool.eq_false_iff]
          intro h
          have h3 := (isCode_raw h).2
          rw [← hRd, size_data] at h3
          exact hl h3)
        clear hR hRd
        go_wp2_with (go_at_call 12; refine (HC.out _).mono ?_; rintro e w2 ⟨rfl, hb2⟩)
        go_ret2
        exact dec_no HX.out (HN.out.trans (hb2.mono HN.out.size))

theorem rDecode_calls (t : ByteArray) (w : World) : Calls Try.prog 14 #[.string t] w (DecPost t w) := by
  by_cases h : t.size % 4 = 1 ∨ 540 < t.size
  · exact rDecode_long t w h
  · exact rDecode_short t w (by omega) (by omega)
end Go.Proofs.Ytfmhpeeecejpbaa
