/- The walk of the document's own Make: its ways. -/
import Derived.Test.YtifccjchpciicaaGreatDoorD2
namespace Go.Proofs.YtifccjchpciicaaGreatDoor
open Go.RowKit
open Go.Lib (decDigits nDigits)

theorem decB_not0 {m : Nat} (h : m ≠ 0) : ¬ (decB m).toList = [48] := by
  rw [Lib.toList_data, decB_data]
  intro e
  have := congrArg dv e
  rw [dv_dec] at this
  exact h (this.trans (by decide))
def strOf : Value → ByteArray
  | .string s => s
  | _ => noB
theorem pow_nd {m a k : Nat} (h : nDigits m ≤ 400) (hm : m = a * 10 ^ k) (ha : a ≠ 0) : k ≤ 400 := by
  have h1 := Lib.lt_pow_nDigits m
  have h2 : 1 * 10 ^ k ≤ m := by rw [hm]; exact Nat.mul_le_mul_right _ (by omega)
  have h3 : 10 ^ k < 10 ^ nDigits m := by omega
  have := (Nat.pow_lt_pow_iff_right (show 1 < 10 by omega)).1 h3
  omega

/-- Two decimals laid one behind the other, as a call leaves them. -/
theorem two_dec {w w2 : World} {a0 a1 a2 b0 b1 b2 : Value} {T : TypeId} (hb : Below ((w.alloc (.cells #[a0, a1, a2] T)).alloc (.cells #[b0, b1, b2] T)).heap.size ((w.alloc (.cells #[a0, a1, a2] T)).alloc (.cells #[b0, b1, b2] T)) w2) :
    (w2.cell? ⟨w.heap.size + 1, 0, none⟩ = some b0 ∧ w2.cell? ⟨w.heap.size + 1, 1, none⟩ = some b1 ∧ w2.cell? ⟨w.heap.size + 1, 2, none⟩ = some b2) ∧
    (w2.cell? ⟨w.heap.size, 0, none⟩ = some a0 ∧ w2.cell? ⟨w.heap.size, 1, none⟩ = some a1 ∧ w2.cell? ⟨w.heap.size, 2, none⟩ = some a2) ∧
    (w2.frozen? ⟨w.heap.size, 0, none⟩ = false ∧ w2.frozen? ⟨w.heap.size, 1, none⟩ = false ∧ w2.frozen? ⟨w.heap.size, 2, none⟩ = false) ∧ w.heap.size + 1 < w2.heap.size := by
  refine ⟨⟨(hb.cell (p := ⟨w.heap.size + 1, 0, none⟩) (by simp)).trans (by simp), (hb.cell (p := ⟨w.heap.size + 1, 1, none⟩) (by simp)).trans (by simp), (hb.cell (p := ⟨w.heap.size + 1, 2, none⟩) (by simp)).trans (by simp)⟩,
    ⟨(hb.cell (p := ⟨w.heap.size, 0, none⟩) (by simp; omega)).trans (by simp), (hb.cell (p := ⟨w.heap.size, 1, none⟩) (by simp; omega)).trans (by simp), (hb.cell (p := ⟨w.heap.size, 2, none⟩) (by simp; omega)).trans (by simp)⟩,
    ⟨(hb.frozen (p := ⟨w.heap.size, 0, none⟩) (by simp; omega)).trans (by simp), (hb.frozen (p := ⟨w.heap.size, 1, none⟩) (by simp; omega)).trans (by simp), (hb.frozen (p := ⟨w.heap.size, 2, none⟩) (by simp; omega)).trans (by simp)⟩, ?_⟩
  have := hb.size
  simp at this
  omega

/-- What Make tells. -/
def MakePost (n : Bool) (l : List UInt8) (e : Int) (w : World) (o : Ending) (w' : World) : Prop := o = .returned (DecRes (makeR n l e)) ∧ Below w.heap.size w w'
theorem make_bad {n : Bool} {l : List UInt8} {e : Int} {w w' : World} (h : makeR n l e = none) (hb : Below w.heap.size w w') : MakePost n l e w (.returned (.tuple #[.agg #[.bool false, .string ⟨#[]⟩, .int .i64 0], .int .i64 40])) w' := ⟨by rw [h]; rfl, hb⟩

set_option maxRecDepth 100000 in
set_option maxHeartbeats 1000000 in
theorem rMake_early (n : Bool) (s : ByteArray) (e : Int) (w : World) (h : s.size < 1 ∨ 400 < s.size ∨ e < -1000 ∨ 1000 < e) : Calls Tryz.prog 22 #[.bool n, .string s, .int .i64 e] w (MakePost n s.data.toList e w) := by
  have HB : Hid (makeR n s.data.toList e = none) := Lib.hid (makeR_bad (by
    rcases h with h | h | h | h
    · exact .inl (List.eq_nil_of_length_eq_zero (by rw [← Lib.size_eq]; omega))
    · exact .inr (.inl (by rw [← Lib.size_eq]; exact h))
    · exact .inr (.inr (.inl h))
    · exact .inr (.inr (.inr (.inl h)))))
  have hc : s.size < 1 ∨ (¬ s.size < 1 ∧ 400 < s.size) ∨ (¬ s.size < 1 ∧ ¬ 400 < s.size ∧ e < -1000) ∨ (¬ s.size < 1 ∧ ¬ 400 < s.size ∧ ¬ e < -1000 ∧ 1000 < e) := by omega
  clear h
  rcases hc with h | ⟨h1, h⟩ | ⟨h1, h2, h⟩ | ⟨h1, h2, h3, h⟩
  · have d1 : decide ((s.size : Int) < 1) = true := by simp; omega
    go_enter Tryz.func22, Tryz.ntmps22
    go_wp2
    refine bodyPost_ret (v := .tuple #[.agg #[.bool false, .string ⟨#[]⟩, .int .i64 0], .int .i64 40]) (by simp [results, Tryz.results22, go_sem]) rfl ?_
    exact make_bad HB.out ((Below.refl _ _).alloc (Nat.le_refl _) _)
  · have d1 : decide ((s.size : Int) < 1) = false := by simp; omega
    have d2 : decide ((400 : Int) < (s.size : Int)) = true := by simp; omega
    go_enter Tryz.func22, Tryz.ntmps22
    go_wp2
    refine bodyPost_ret (v := .tuple #[.agg #[.bool false, .string ⟨#[]⟩, .int .i64 0], .int .i64 40]) (by simp [results, Tryz.results22, go_sem]) rfl ?_
    exact make_bad HB.out ((Below.refl _ _).alloc (Nat.le_refl _) _)
  · have d1 : decide ((s.size : Int) < 1) = false := by simp; omega
    have d2 : decide ((400 : Int) < (s.size : Int)) = false := by simp; omega
    have d3 : decide (e < -1000) = true := by simp; omega
    go_enter Tryz.func22, Tryz.ntmps22
    go_wp2
    refine bodyPost_ret (v := .tuple #[.agg #[.bool false, .string ⟨#[]⟩, .int .i64 0], .int .i64 40]) (by simp [results, Tryz.results22, go_sem]) rfl ?_
    exact make_bad HB.out ((Below.refl _ _).alloc (Nat.le_refl _) _)
  · have d1 : decide ((s.size : Int) < 1) = false := by simp; omega
    have d2 : decide ((400 : Int) < (s.size : Int)) = false := by simp; omega
    have d3 : decide (e < -1000) = false := by simp; omega
    have d4 : decide ((1000 : Int) < e) = true := by simp; omega
    go_enter Tryz.func22, Tryz.ntmps22
    go_wp2
    refine bodyPost_ret (v := .tuple #[.agg #[.bool false, .string ⟨#[]⟩, .int .i64 0], .int .i64 40]) (by simp [results, Tryz.results22, go_sem]) rfl ?_
    exact make_bad HB.out ((Below.refl _ _).alloc (Nat.le_refl _) _)

set_option maxRecDepth 100000 in
set_option maxHeartbeats 4000000 in
theorem rMake_late (n : Bool) (s : ByteArray) (e : Int) (w : World) (h1 : 1 ≤ s.size) (h2 : s.size ≤ 400) (h3 : -1000 ≤ e) (h4 : e ≤ 1000) : Calls Tryz.prog 22 #[.bool n, .string s, .int .i64 e] w (MakePost n s.data.toList e w) := by
  have d1 : decide ((s.size : Int) < 1) = false := by simp; omega
  have d2 : decide ((400 : Int) < (s.size : Int)) = false := by simp; omega
  have d3 : decide (e < -1000) = false := by simp; omega
  have d4 : decide ((1000 : Int) < e) = false := by simp; omega
  go_enter Tryz.func22, Tryz.ntmps22
  go_wp2
  clear d1 d2 d3 d4
  go_loop [8] (fun i => ∃ k : Nat, i = .int .i64 k ∧ k ≤ s.size ∧ Hid (∀ j, j < k → isD (byteAt s j) = true)) (fun i => s.size - (intOf i).toNat)
  case atStart => exact ⟨0, rfl, by omega, Lib.hid (fun j hj => by omega)⟩
  case round =>
    obtain ⟨k, rfl, hk, HJ⟩ := hrel
    by_cases hlt : k < s.size
    · have hv : (s[k]'hlt).toNat = (byteAt s k).toNat := by rw [byteAt_eq s k hlt]
      have hdi := isD_iff (byteAt s k)
      have HNo : Hid (isD (byteAt s k) = false → makeR n s.data.toList e = none) := Lib.hid (fun h => makeR_bad (.inr (.inr (.inr (.inr (by
        have hl : k < s.data.toList.length := by rw [← Lib.size_eq]; exact hlt
        rw [Bool.eq_false_iff]
        intro ha
        have := (List.all_eq_true.1 ha) _ (List.getElem_mem hl)
        rw [byteAt_list, List.getElem?_eq_getElem hl] at h
        rw [show (some s.data.toList[k]).getD 0 = s.data.toList[k] from rfl, this] at h
        cases h))))))
      obtain ⟨c, hc⟩ : ∃ c, c = (byteAt s k).toNat := ⟨_, rfl⟩
      rw [← hc] at hv hdi
      have hcase : c < 48 ∨ (48 ≤ c ∧ 57 < c) ∨ (48 ≤ c ∧ c ≤ 57) := by omega
      have HD := Lib.hid hdi
      clear hc hdi
      rcases hcase with h | ⟨h, h'⟩ | ⟨g1, g2⟩
      · have HB := Lib.hid (HNo.out (by rw [Bool.eq_false_iff]; intro h5; have := HD.out.1 h5; omega))
        clear HNo
        go_wp2
        refine bodyPost_ret (v := .tuple #[.agg #[.bool false, .string ⟨#[]⟩, .int .i64 0], .int .i64 40]) (by simp [results, Tryz.results22, go_sem]) rfl ?_
        exact make_bad HB.out ((Below.refl _ _).alloc (Nat.le_refl _) _)
      · have HB := Lib.hid (HNo.out (by rw [Bool.eq_false_iff]; intro h5; have := HD.out.1 h5; omega))
        clear HNo
        go_wp2
        refine bodyPost_ret (v := .tuple #[.agg #[.bool false, .string ⟨#[]⟩, .int .i64 0], .int .i64 40]) (by simp [results, Tryz.results22, go_sem]) rfl ?_
        exact make_bad HB.out ((Below.refl _ _).alloc (Nat.le_refl _) _)
      · have HJ2 : Hid (∀ j, j < k + 1 → isD (byteAt s j) = true) := Lib.hid (fun j hj => by
          rcases Nat.lt_or_ge j k with h5 | h5
          · exact HJ.out j h5
          · obtain rfl : j = k := by omega
            exact HD.out.2 ⟨g1, g2⟩)
        clear HNo
        go_wp2
        go_round
        case rel => exact ⟨k + 1, by go_num, by omega, HJ2⟩
        case measure => simp [intOf]; omega
    · have hall : s.data.toList.all isD = true := by
        rw [List.all_eq_true]
        intro x hx
        obtain ⟨p, hp, rfl⟩ := List.getElem_of_mem hx
        have := HJ.out p (by rw [← Lib.size_eq] at hp; omega)
        rw [byteAt_list, List.getElem?_eq_getElem hp] at this
        exact this
      have hne : s.data.toList ≠ [] := by
        intro h
        have := Lib.size_eq s
        rw [h, List.length_nil] at this
        omega
      have HDg : Hid (Digs s) := Lib.hid ⟨hne, hall⟩
      have HG : Hid (¬ (s.data.toList = [] ∨ 400 < s.data.toList.length ∨ e < -1000 ∨ 1000 < e ∨ s.data.toList.all isD = false)) := Lib.hid (by
        rintro (h | h | h | h | h)
        · exact hne h
        · rw [← Lib.size_eq] at h; omega
        · omega
        · omega
        · rw [hall] at h; cases h)
      have HLim := Lib.hid (lim_dv (by rw [← Lib.size_eq]; exact h2) hall hne)
      clear hall hne HJ
      obtain ⟨m, hm⟩ : ∃ m, m = dv s.data.toList := ⟨_, rfl⟩
      have HTr := Lib.hid (fun w => rTrim_calls s w HDg.out (by omega))
      rw [← hm] at HTr HLim
      have HM := Lib.hid hm
      clear hm
      by_cases hm0 : m = 0
      · subst hm0
        have HB : Hid (makeR n s.data.toList e = some (false, 0, 0)) := Lib.hid (makeR_zero HG.out HM.out.symm)
        have hz : decB 0 = ⟨#[48]⟩ := by rw [← decB_one (by omega)]; rfl
        rw [hz] at HTr
        clear hz
        go_wp2_with (go_at_call 44; refine (HTr.out _).mono ?_; rintro o w1 ⟨rfl, rfl⟩)
        refine bodyPost_ret (v := .tuple #[.agg #[.bool false, .string ⟨#[48]⟩, .int .i64 0], .int .i64 0]) (by simp [results, Tryz.results22, go_sem]) rfl ?_
        exact ⟨by rw [HB.out, DecRes, decV, show decB 0 = ⟨#[48]⟩ from by rw [← decB_one (by omega)]; rfl], (Below.refl _ _).alloc (Nat.le_refl _) _⟩
      · have HNd := Lib.hid ((lim_iff m).2 HLim.out)
        have hq := decB_not0 hm0
        have hq1 : ((decB m).toList == [48]) = false := beq_eq_false_iff_ne.2 hq
        have hsz0 : (decB m).size ≤ 400 := by rw [decB_len]; exact HNd.out
        go_wp2_with (go_at_call 44; refine (HTr.out _).mono ?_; rintro o w1 ⟨rfl, rfl⟩)
        clear hq hq1
        go_loop [1, 2] (fun v x => ∃ a k : Nat, v = .string (decB a) ∧ x = .int .i64 (e + (k : Int)) ∧ Hid (m = a * 10 ^ k) ∧ Hid (a ≠ 0) ∧ k ≤ 400 ∧ (decB a).size ≤ 400) (fun v _ => (strOf v).size)
        case atStart => exact ⟨m, 0, rfl, by simp, Lib.hid (by rw [Nat.pow_zero, Nat.mul_one]), Lib.hid hm0, by omega, hsz0⟩
        case round =>
          obtain ⟨a, k, rfl, rfl, HK, HA, hk4, hsz⟩ := hrel
          have h0 := decB_pos a
          obtain ⟨p, hp⟩ : ∃ p, p = (decB a).size - 1 := ⟨_, rfl⟩
          have hpi : ((decB a).size : Int) - 1 = (p : Int) := by omega
          have hpl : p < (decB a).size := by omega
          have hpv : ((decB a)[p]'hpl).toNat = 48 + a % 10 := by rw [← byteAt_eq (decB a) p hpl, hp]; exact decB_at
          by_cases hz : a % 10 = 0
          · have hpv2 : ((decB a)[p]'hpl).toNat = 48 := by omega
            have h10 : ¬ a < 10 := by have := HA.out; omega
            have hct : (decB a).extract 0 p = decB (a / 10) := by rw [hp]; exact decB_cut h10
            have hs2 : (decB (a / 10)).size < (decB a).size := by rw [← hct, ByteArray.size_extract]; omega
            have HK2 : Hid (m = a / 10 * 10 ^ (k + 1)) := Lib.hid (by
              rw [HK.out, Nat.pow_succ, Nat.mul_comm (10 ^ k) 10, ← Nat.mul_assoc]
              congr 1
              omega)
            have HA2 : Hid (a / 10 ≠ 0) := Lib.hid (by omega)
            have HKl := Lib.hid (pow_nd HNd.out HK2.out HA2.out)
            clear hpv hz hp
            go_wp2
            go_round
            case rel => exact ⟨a / 10, k + 1, rfl, by go_num, HK2, HA2, HKl.out, by omega⟩
            case measure => simp [strOf]; omega
          · have hpn : ¬ ((decB a)[p]'hpl).toNat = 48 := by omega
            have HLa : Hid (a < lim) := Lib.hid (by
              have h5 : a * 1 ≤ a * 10 ^ k := Nat.mul_le_mul_left _ (Nat.pow_pos (by omega))
              have h6 := HLim.out
              rw [HK.out] at h6
              omega)
            have HV := Lib.hid (rightD_dec n hz HLa.out (e + (k : Int)))
            have HMk := Lib.hid (makeR_more (n := n) HG.out (HM.out.symm.trans HK.out) hz hk4)
            have HRc := Lib.hid (fun w => rRight4_calls n (decB a) (e + (k : Int)) w)
            have hc1 : ((48 : Int) + (a : Int) % 10 == 48) = false := by simp; omega
            clear hz hp
            by_cases hr : nDigits a ≤ 100 ∧ -100 ≤ e + (k : Int) ∧ e + (k : Int) ≤ 100
            · have HR2 : Hid (∀ w, Calls Tryz.prog 17 #[.agg #[.bool n, .string (decB a), .int .i64 (e + (k : Int))]] w fun o w' => o = .returned (.bool true) ∧ Below w.heap.size w w') := Lib.hid (fun w => by
                have h5 := HRc.out w
                rw [decB_data, HV.out, show decide (nDigits a ≤ 100) = true from by simpa using hr.1, show decide (-100 ≤ e + (k : Int)) = true from by simpa using hr.2.1, show decide (e + (k : Int) ≤ 100) = true from by simpa using hr.2.2] at h5
                exact h5)
              have HMk2 : Hid (makeR n s.data.toList e = some (n, a, e + (k : Int))) := Lib.hid (by rw [HMk.out, if_pos hr])
              clear hr HRc
              go_wp2_with (go_at_call 17; refine (HR2.out _).mono ?_; rintro o w2 ⟨rfl, hb2⟩; obtain ⟨⟨k0, k1, k2⟩, ⟨m0, m1, m2⟩, ⟨f0, f1, f2⟩, hz2⟩ := two_dec hb2; have HB2 := Lib.hid hb2; clear hb2)
              have HBw : Hid (Below w.heap.size w w2) := Lib.hid ((((Below.refl _ w).alloc (Nat.le_refl _) _).alloc (by simp) _).trans (HB2.out.mono (by simp; omega)))
              refine bodyPost_ret (v := .tuple #[.agg #[.bool n, .string (decB a), .int .i64 (e + (k : Int))], .int .i64 0]) (by simp [results, Tryz.results22, go_sem, m0, m1, m2]) rfl ?_
              exact ⟨by rw [HMk2.out]; rfl, ((HBw.out.setCell (p := ⟨w.heap.size, 0, none⟩) (Nat.le_refl _) _).setCell (p := ⟨w.heap.size, 1, none⟩) (Nat.le_refl _) _).setCell (p := ⟨w.heap.size, 2, none⟩) (Nat.le_refl _) _⟩
            · have HR2 : Hid (∀ w, Calls Tryz.prog 17 #[.agg #[.bool n, .string (decB a), .int .i64 (e + (k : Int))]] w fun o w' => o = .returned (.bool false) ∧ Below w.heap.size w w') := Lib.hid (fun w => by
                have h5 := HRc.out w
                rw [decB_data, HV.out, show (decide (nDigits a ≤ 100) && (decide (-100 ≤ e + (k : Int)) && decide (e + (k : Int) ≤ 100))) = false from by
                  rw [← Bool.not_eq_true]
                  intro h6
                  simp only [Bool.and_eq_true, decide_eq_true_eq] at h6
                  exact hr h6] at h5
                exact h5)
              have HMk2 : Hid (makeR n s.data.toList e = none) := Lib.hid (by rw [HMk.out, if_neg hr])
              clear hr HRc
              go_wp2_with (go_at_call 17; refine (HR2.out _).mono ?_; rintro o w2 ⟨rfl, hb2⟩; obtain ⟨⟨k0, k1, k2⟩, ⟨m0, m1, m2⟩, ⟨f0, f1, f2⟩, hz2⟩ := two_dec hb2; have HB2 := Lib.hid hb2; clear hb2)
              have HBw : Hid (Below w.heap.size w w2) := Lib.hid ((((Below.refl _ w).alloc (Nat.le_refl _) _).alloc (by simp) _).trans (HB2.out.mono (by simp; omega)))
              refine bodyPost_ret (v := .tuple #[.agg #[.bool false, .string ⟨#[]⟩, .int .i64 0], .int .i64 40]) (by simp [results, Tryz.results22, go_sem, m0, m1, m2]) rfl ?_
              exact make_bad HMk2.out (((HBw.out.setCell (p := ⟨w.heap.size, 0, none⟩) (Nat.le_refl _) _).setCell (p := ⟨w.heap.size, 1, none⟩) (Nat.le_refl _) _).setCell (p := ⟨w.heap.size, 2, none⟩) (Nat.le_refl _) _)

theorem rMake_calls (n : Bool) (s : ByteArray) (e : Int) (w : World) : Calls Tryz.prog 22 #[.bool n, .string s, .int .i64 e] w (MakePost n s.data.toList e w) := by
  by_cases h : s.size < 1 ∨ 400 < s.size ∨ e < -1000 ∨ 1000 < e
  · exact rMake_early n s e w h
  · exact rMake_late n s e w (by omega) (by omega) (by omega) (by omega)
end Go.Proofs.YtifccjchpciicaaGreatDoor
