/- The walk of the document's own Unpair. -/
import Derived.Test.YtfmhpeeecejpbaaRp
namespace Go.Proofs.Ytfmhpeeecejpbaa
open Go.RowKit

/-- What Unpair tells of a text. -/
def UnpPost (t : ByteArray) (w : World) (e : Ending) (w' : World) : Prop :=
  ((isPairs t.data.toList = true ∧ e = .returned (.tuple #[.string ⟨(unpair t.data.toList).toArray⟩, .int .i64 0])) ∨ (isPairs t.data.toList = false ∧ e = .returned (.tuple #[.string noB, .int .i64 30]))) ∧ Below w.heap.size w w'
theorem unp_no {t : ByteArray} {w w' : World} (h : isPairs t.data.toList = false) (hb : Below w.heap.size w w') : UnpPost t w (.returned (.tuple #[.string noB, .int .i64 30])) w' := ⟨.inr ⟨h, rfl⟩, hb⟩

theorem pair_digits {t : ByteArray} (h : isPairs t.data.toList = true) {p : Nat} (hp : p < t.size) : unhex (byteAt t p).toNat < 16 := by
  simp only [isPairs, Bool.and_eq_true] at h
  have hl : p < t.data.toList.length := by rw [size_data]; exact hp
  have h2 := (List.all_eq_true.1 h.2) (t.data.toList[p]) (List.getElem_mem hl)
  rw [byteAt_list, List.getElem?_eq_getElem hl]
  simpa [isHex] using h2
theorem not_digit {t : ByteArray} {p : Nat} (hp : p < t.size) (h : ¬ unhex (byteAt t p).toNat < 16) : isPairs t.data.toList = false := by
  rw [Bool.eq_false_iff]
  intro hc
  exact h (pair_digits hc hp)
/-- All of the first k are digits. -/
def AH (t : ByteArray) (k : Nat) : Prop := ∀ p, p < k → p < t.size → unhex (byteAt t p).toNat < 16
theorem AH.all {t : ByteArray} {k : Nat} (h : AH t k) (hk : t.size ≤ k) : t.data.toList.all isHex = true := by
  rw [List.all_eq_true]
  intro x hx
  obtain ⟨p, hp, rfl⟩ := List.getElem_of_mem hx
  have hp' : p < t.size := by rw [← size_data]; exact hp
  have := h p (by omega) hp'
  rw [byteAt_list, List.getElem?_eq_getElem hp] at this
  simpa [isHex] using this
theorem unpair_app : ∀ (s t : List UInt8), s.length % 2 = 0 → unpair (s ++ t) = unpair s ++ unpair t
  | [], _, _ => rfl
  | [_], _, h => by simp at h
  | a :: b :: s, t, h => by
    simp only [List.cons_append, unpair]
    rw [unpair_app s t (by simp only [List.length_cons] at h; omega)]
theorem unpair_step (t : ByteArray) (k : Nat) (h2 : k % 2 = 0) (hk : k + 1 < t.size) : unpair (t.data.toList.take (k + 2)) = unpair (t.data.toList.take k) ++ [UInt8.ofNat (unhex (byteAt t k).toNat * 16 + unhex (byteAt t (k + 1)).toNat)] := by
  have hl : (t.data.toList.take k).length = k := by rw [List.length_take, size_data]; omega
  rw [show k + 2 = k + 1 + 1 from rfl, take_snoc t _ hk, take_snoc t _ (by omega), List.append_assoc, unpair_app _ _ (by rw [hl]; exact h2)]
  rfl
/-- The number of the first j of two digits. -/
def hv (t : ByteArray) (k : Nat) : Nat → Nat
  | 0 => 0
  | j + 1 => 16 * hv t k j + unhex (byteAt t (k + j)).toNat

set_option maxRecDepth 100000 in
set_option maxHeartbeats 1000000 in
theorem rUnpair_long (t : ByteArray) (w : World) (h : t.size % 2 = 1 ∨ 800 < t.size) : Calls Try.prog 19 #[.string t] w (UnpPost t w) := by
  have HD : Hid (isPairs t.data.toList = false) := Lib.hid (by
    rw [Bool.eq_false_iff]
    intro hc
    simp only [isPairs, Bool.and_eq_true, decide_eq_true_eq, size_data] at hc
    omega)
  by_cases h1 : t.size % 2 = 1
  · have hb : ((t.size : Int) % 2 == 1) = true := by simp; omega
    clear h h1
    go_enter Try.func19, Try.ntmps19
    go_wp2
    go_ret2
    exact unp_no HD.out (Below.refl _ _)
  · have hb : ((t.size : Int) % 2 == 1) = false := by simp; omega
    have hb2 : decide ((800 : Int) < (t.size : Int)) = true := by simp; omega
    clear h h1
    go_enter Try.func19, Try.ntmps19
    go_wp2
    go_ret2
    exact unp_no HD.out (Below.refl _ _)

theorem unhex_dig {c : Nat} (h : 48 ≤ c ∧ c ≤ 57) : unhex c = c - 48 := by unfold unhex; rw [if_pos h]
theorem unhex_let {c : Nat} (h : 97 ≤ c ∧ c ≤ 102) : unhex c = c - 87 := by unfold unhex; rw [if_neg (by omega), if_pos h]
theorem unhex_none {c : Nat} (h : ¬ (48 ≤ c ∧ c ≤ 57)) (h2 : ¬ (97 ≤ c ∧ c ≤ 102)) : ¬ unhex c < 16 := by unfold unhex; rw [if_neg h, if_neg h2]; omega

set_option maxRecDepth 100000 in
set_option maxHeartbeats 4000000 in
theorem rUnpair_short (t : ByteArray) (w : World) (h1 : t.size % 2 = 0) (h2 : t.size ≤ 800) : Calls Try.prog 19 #[.string t] w (UnpPost t w) := by
  obtain ⟨i0, hi, hz0, hz1, hz2⟩ := info_parts info5
  have HI := Lib.hid hi
  have HZ0 := Lib.hid hz0
  have HZ1 := Lib.hid hz1
  have HZ2 := Lib.hid hz2
  have hb : ((t.size : Int) % 2 == 1) = false := by simp; omega
  have hb' : ¬ (t.size : Int) % 2 = 1 := by omega
  have hb2 : decide ((800 : Int) < (t.size : Int)) = false := by simp; omega
  have H1 := Lib.hid h1
  clear hi hz0 hz1 hz2 h1
  go_enter Try.func19, Try.ntmps19
  go_wp2
  clear hb hb' hb2
  go_loopw [4, 5] (fun v i wr => ∃ k : Nat, i = .int .i64 k ∧ k ≤ t.size ∧ Hid (k % 2 = 0) ∧ AH t k ∧ wr.ownsRow w.heap.size 5 1 v (unpair (t.data.toList.take k)).length ((unpair (t.data.toList.take k)).map encB) ∧ Below w.heap.size w wr) (fun _ i _ => t.size + 2 - (intOf i).toNat)
  case atStart => exact ⟨0, rfl, by omega, Lib.hid rfl, fun p hp => by omega, World.ownsRow_nil _ _ _ _, Below.refl _ _⟩
  case round =>
    obtain ⟨k, rfl, hk, HK2, hal, hown, hnx⟩ := hrel
    have HAL := Lib.hid hal
    have HO := Lib.hid hown
    have HN := Lib.hid hnx
    clear hal hown hnx
    by_cases hlt : k < t.size
    · have hk1 : k + 1 < t.size := by have := H1.out; have := HK2.out; omega
      go_wp2
      go_loop [6, 7] (fun n j => ∃ q : Nat, j = .int .i64 q ∧ q ≤ 2 ∧ n = .int .i64 (hv t k q : Nat) ∧ Hid (hv t k q < 16 ^ q) ∧ Hid (AH t (k + q))) (fun _ j => 2 - (intOf j).toNat)
      case atStart => exact ⟨0, rfl, by omega, rfl, Lib.hid (by simp [hv]), HAL⟩
      case round =>
        obtain ⟨q, rfl, hq, rfl, HV, HA⟩ := hrel
        by_cases hq2 : q < 2
        · have hgv : hv t k q < 16 ^ 2 := Nat.lt_of_lt_of_le HV.out (Nat.pow_le_pow_right (by omega) (by omega))
          obtain ⟨G, hG⟩ : ∃ G, G = hv t k q := ⟨_, rfl⟩
          rw [← hG] at hgv HV ⊢
          have hgv2 : G < 256 := hgv
          have HG := Lib.hid hG
          obtain ⟨p, hp⟩ : ∃ p, p = k + q := ⟨_, rfl⟩
          have hpi : (k : Int) + (q : Int) = (p : Int) := by omega
          have hpl : p < t.size := by omega
          have hpv : (t[p]'hpl).toNat = (byteAt t p).toNat := by rw [byteAt_eq t p hpl]
          have hpb : (byteAt t p).toNat < 256 := (byteAt t p).toNat_lt
          obtain ⟨c, hc⟩ : ∃ c, c = (byteAt t p).toNat := ⟨_, rfl⟩
          have HE : Hid (hv t k (q + 1) = 16 * G + unhex c) := Lib.hid (by rw [hv, ← HG.out, ← hp, ← hc])
          have HL : Hid (unhex c < 16 → hv t k (q + 1) < 16 ^ (q + 1) ∧ AH t (k + (q + 1))) := Lib.hid (fun h => ⟨by rw [HE.out, Nat.pow_succ]; have := HV.out; omega, fun x hx hx2 => by
            rcases Nat.lt_or_ge x (k + q) with h3 | h3
            · exact HA.out x h3 hx2
            · obtain rfl : x = p := by omega
              rw [← hc]; exact h⟩)
          have HX : Hid (¬ unhex c < 16 → isPairs t.data.toList = false) := Lib.hid (fun h => not_digit hpl (by rw [← hc]; exact h))
          rw [← hc] at hpv hpb
          clear hG hgv hp hc
          by_cases hd : 48 ≤ c ∧ c ≤ 57
          · obtain ⟨d1, d2⟩ := hd
            have HU := Lib.hid (unhex_dig ⟨d1, d2⟩)
            have i1 : (48 : Int) ≤ (c : Int) := by omega
            have i2 : (c : Int) ≤ 57 := by omega
            go_wp2
            go_round
            case rel => exact ⟨q + 1, by go_num, by omega, by rw [HE.out, HU.out]; go_num, Lib.hid (HL.out (by rw [HU.out]; omega)).1, Lib.hid (HL.out (by rw [HU.out]; omega)).2⟩
            case measure => simp [intOf]; omega
          · by_cases hl : 97 ≤ c ∧ c ≤ 102
            · obtain ⟨d1, d2⟩ := hl
              have HU := Lib.hid (unhex_let ⟨d1, d2⟩)
              have i1 : (97 : Int) ≤ (c : Int) := by omega
              have i2 : (c : Int) ≤ 102 := by omega
              have i3 : ¬ (c : Int) ≤ 57 := by omega
              clear hd
              go_wp2
              go_round
              case rel => exact ⟨q + 1, by go_num, by omega, by rw [HE.out, HU.out]; go_num, Lib.hid (HL.out (by rw [HU.out]; omega)).1, Lib.hid (HL.out (by rw [HU.out]; omega)).2⟩
              case measure => simp [intOf]; omega
            · have HY := Lib.hid (HX.out (unhex_none hd hl))
              have hcase : c < 48 ∨ (58 ≤ c ∧ c < 97) ∨ 103 ≤ c := by omega
              clear hd hl
              rcases hcase with g | ⟨g1, g2⟩ | g
              all_goals
                go_wp2
                go_ret2
                exact unp_no HY.out HN.out
        · obtain rfl : q = 2 := by omega
          have hgv : hv t k 2 < 256 := HV.out
          have HR : Hid (unpair (t.data.toList.take (k + 2)) = unpair (t.data.toList.take k) ++ [UInt8.ofNat (hv t k 2)]) := Lib.hid (by
            rw [unpair_step t k HK2.out hk1]
            congr 3
            simp only [hv]
            rw [show k + 0 = k from rfl]
            omega)
          obtain ⟨G, hG⟩ : ∃ G, G = hv t k 2 := ⟨_, rfl⟩
          rw [← hG] at hgv HR ⊢
          have HB : Hid ([UInt8.ofNat G].map encB = [Value.int .u8 (G : Int)]) := Lib.hid (by simp only [List.map_cons, List.map_nil, encB]; rw [u8_nat _ hgv])
          have hrl := unpair_len (t.data.toList.take k)
          rw [List.length_take, size_data] at hrl
          have hrl2 : (unpair (t.data.toList.take k)).length ≤ 600 := by omega
          clear hG hrl HV
          go_wp2_with (at_builtin; refine wpList_append_own _ rfl (.tmp 58) (.tmp 61) 35 rfl w.heap.size 5 i0 (.int .u8 0) 1 1 Try.underlying35 HI.out HZ0.out HZ1.out HZ2.out rfl (by decide) _ _ _ rfl (HO.out.alloc _) ⟨wr.heap.size, 0, none⟩ 1 1 [Value.int .u8 (G : Int)] rfl rfl (cell_one_new _ _ _) (by simp [Value.oneCell']) (by unfold maxLen; omega) (by omega) (by have := HN.out.size; simp; omega) ?_; intro v' w3 hown3 hg3 hnil)
          have HO3 := Lib.hid hown3
          have HB3 := Lib.hid ((HN.out.alloc HN.out.size _).grown hg3 (by have := HN.out.size; simp; omega) (fun k e => (HO.out.lt k e).1))
          clear hown3 hg3 hnil
          go_roundw
          case rel => exact ⟨k + 2, by go_num, by omega, Lib.hid (by have := HK2.out; omega), HA.out, row_appP HO3.out HB.out rfl HR.out, HB3.out⟩
          case measure => simp [intOf]; omega
    · have HT : Hid (t.data.toList.take k = t.data.toList) := Lib.hid (List.take_of_length_le (by rw [size_data]; omega))
      have HX : Hid (isPairs t.data.toList = true) := Lib.hid (by
        simp only [isPairs, Bool.and_eq_true, decide_eq_true_eq, size_data]
        exact ⟨⟨h2, H1.out⟩, HAL.out.all (by omega)⟩)
      have hcv0 := conv_own HO.out
      rw [HT.out] at hcv0
      go_wp2
      go_ret2
      exact ⟨.inl ⟨HX.out, rfl⟩, HN.out⟩

theorem rUnpair_calls (t : ByteArray) (w : World) : Calls Try.prog 19 #[.string t] w (UnpPost t w) := by
  by_cases h : t.size % 2 = 1 ∨ 800 < t.size
  · exact rUnpair_long t w h
  · exact rUnpair_short t w (by omega) (by omega)
end Go.Proofs.Ytfmhpeeecejpbaa
