/- The walks of HeadOpens. -/
import Derived.Test.YtgaaiiacdeejfaaDoorL2
namespace Go.Proofs.YtgaaiiacdeejfaaDoor
open Go.RowKit

set_option maxRecDepth 100000 in
set_option maxHeartbeats 1000000 in
theorem opens_none (m : Int) (s : ByteArray) (w : World) (hT : SizT w) (h : m < 0 ∨ 7 < m) : Calls Tryd.prog 9 #[.int .i64 m, .string s] w fun e w' => e = .returned (.bool true) ∧ Below w.heap.size w w' := by
  have HT := Lib.hid hT
  clear hT
  by_cases h1 : m < 0
  · have d1 : decide (m < 0) = true := by simpa using h1
    clear h
    go_enter Tryd.func9, Tryd.ntmps9
    go_wp2_with (go_at_call 10; (with_reducible refine (shownH_ans _ HT.out).mono ?_); rintro e' w1 ⟨rfl, hb⟩; have HB1 := Lib.hid hb; have HT1 := Lib.hid (HT.out.below hb); clear hb)
    go_ret
    exact ⟨rfl, HB1.out⟩
  · have d1 : decide (m < 0) = false := by simpa using h1
    have d2 : decide (7 < m) = true := by simp; omega
    clear h h1
    go_enter Tryd.func9, Tryd.ntmps9
    go_wp2_with (go_at_call 10; (with_reducible refine (shownH_ans _ HT.out).mono ?_); rintro e' w1 ⟨rfl, hb⟩; have HB1 := Lib.hid hb; have HT1 := Lib.hid (HT.out.below hb); clear hb)
    go_ret
    exact ⟨rfl, HB1.out⟩

set_option maxRecDepth 100000 in
set_option maxHeartbeats 2000000 in
theorem opens_some (m : Nat) (s X C : ByteArray) (Y : Nat → ByteArray) (w : World) (hT : SizT w) (hm : m < 8) (hC : cutH s = C) (hCs : C.size ≤ 40) (hX : X.size ≤ 1) (hY : ∀ i, (Y i).size ≤ 1)
    (hcv : ∀ W : World, (convert 38 9 (.slice (some ⟨W.heap.size, 0, none⟩) 1 1)).run Tryd.prog (W.alloc (.cells #[.int .u8 (32 * (m : Int) + 31)] 5)) = .ok (.string X) (W.alloc (.cells #[.int .u8 (32 * (m : Int) + 31)] 5)))
    (hcw : ∀ (W : World) (i : Nat), i < 31 → (convert 38 9 (.slice (some ⟨W.heap.size, 0, none⟩) 1 1)).run Tryd.prog (W.alloc (.cells #[.int .u8 (32 * (m : Int) + (i : Int))] 5)) = .ok (.string (Y i)) (W.alloc (.cells #[.int .u8 (32 * (m : Int) + (i : Int))] 5)))
    (hR : AnsH 13 #[.string (X ++ C)] (.tuple #[.int .i64 (m : Int), .int .i64 31, .int .u64 0, .string C, .int .i64 0]))
    (hQ : ∀ i, i = 28 ∨ i = 29 ∨ i = 30 → AnsH 13 #[.string (Y i ++ C)] (.tuple #[.int .i64 0, .int .i64 0, .int .u64 0, .string (Y i ++ C), .int .i64 101]))
    (hI : AnsH 18 #[.int .i64 31, .int .u64 0] (.bool false)) :
    Calls Tryd.prog 9 #[.int .i64 (m : Int), .string s] w fun e w' => e = .returned (.bool true) ∧ Below w.heap.size w w' := by
  have HT := Lib.hid hT
  have HR := Lib.hid hR
  have HQ := Lib.hid hQ
  have HI := Lib.hid hI
  have HV := Lib.hid hcv
  have HW := Lib.hid hcw
  have HY := Lib.hid hY
  have HM := Lib.hid hm
  have d1 : decide ((m : Int) < 0) = false := by simp
  have d2 : decide (7 < (m : Int)) = false := by simp; omega
  have hXC : ¬ 9223372036854775807 < X.size + C.size := by omega
  have hw1 : IntKind.i64.wrap (32 * (m : Int)) = 32 * (m : Int) := by rw [IntKind.wrap_i64]; omega
  have hw2 : IntKind.i64.wrap (32 * (m : Int) + 31) = 32 * (m : Int) + 31 := by rw [IntKind.wrap_i64]; omega
  have hw3 : IntKind.u8.wrap (32 * (m : Int) + 31) = 32 * (m : Int) + 31 := by rw [IntKind.wrap_u8]; omega
  clear hT hR hQ hI hcv hcw hY
  go_enter Tryd.func9, Tryd.ntmps9
  go_wp2_with (go_at_call 10; (with_reducible refine (shownH_ans _ HT.out).mono ?_); rintro e' w1 ⟨rfl, hb⟩; have HB1 := Lib.hid hb; have HT1 := Lib.hid (HT.out.below hb); clear hb)
  refine wp_region_held_drew (S := fun _ => True) hmxH trivial ?_
  obtain ⟨W1, hW1⟩ : ∃ W1, W1 = w1.drew := ⟨_, rfl⟩
  have HB1d := Lib.hid (show Below w.heap.size w W1 by rw [hW1]; exact HB1.out.drew)
  have HT1d := Lib.hid (show SizT W1 by rw [hW1]; exact HT1.out.below (Below.refl _ _).drew)
  rw [← hW1]
  clear HB1 HT1 hW1
  have HB1 := HB1d
  have HT1 := HT1d
  clear HB1d HT1d
  intro hHeld
  refine wpAnyH_take (i := 0) (v := .int .i64 (m : Int)) rfl (by kernel_rfl) (by kernel_rfl) (by kernel_rfl) (fun _ _ _ h => h) (Or.inl ⟨by rfl, by rintro w -; go_simp⟩) hHeld ?_
  refine wpAnyH_take (i := 1) (v := .int .i64 (32 * (m : Int))) rfl (by kernel_rfl) (by kernel_rfl) (by kernel_rfl) (fun _ _ _ h => h) (Or.inl ⟨by rfl, by rintro w -; go_simp⟩) hHeld ?_
  refine wpAnyH_take (i := 2) (v := .int .i64 (32 * (m : Int) + 31)) rfl (by kernel_rfl) (by kernel_rfl) (by kernel_rfl) (fun _ _ _ h => h) (Or.inl ⟨by rfl, by rintro w -; go_simp⟩) hHeld ?_
  refine wpAnyH_take (i := 3) (v := .int .u8 (32 * (m : Int) + 31)) rfl (by kernel_rfl) (by kernel_rfl) (by kernel_rfl) (fun _ _ _ h => h) (Or.inl ⟨by rfl, by rintro w -; go_simp⟩) hHeld ?_
  refine wpAnyH_take (i := 6) (v := .string s) rfl (by kernel_rfl) (by kernel_rfl) (by kernel_rfl) (fun _ _ _ h => h) (Or.inl ⟨by rfl, by rintro w -; go_simp⟩) hHeld ?_
  refine wpAnyH_ready (rs := [4, 7]) (by kernel_rfl) (by simp) ?_
  refine AllReadyH.cons rfl (fun K hK => ?_) (AllReadyH.cons rfl (fun K hK => ?_) AllReadyH.nil)
  · go_simp
    obtain ⟨W2, hW2⟩ : ∃ W2, W2 = W1.alloc (.cells #[.int .u8 (32 * (m : Int) + 31)] 5) := ⟨_, rfl⟩
    have hcX := HV.out W1
    rw [← hW2] at hcX ⊢
    have HB2 := Lib.hid (show Below w.heap.size w W2 by rw [hW2]; exact below_al HB1.out _)
    have HT2 := Lib.hid (show SizT W2 by rw [hW2]; exact HT1.out.below (below_al (Below.refl _ _) _))
    clear hW2
    refine hK.out _ _ trivial (fun hHeld => ?_)
    clear hK K
    refine wpAnyH_ready (rs := [5, 7]) (by kernel_rfl) (by simp) ?_
    refine AllReadyH.cons rfl (fun K hK => ?_) (AllReadyH.cons rfl (fun K hK => ?_) AllReadyH.nil)
    · go_simp
      refine hK.out _ _ trivial (fun hHeld => ?_)
      clear hK K
      refine wpAnyH_ready (rs := [7]) (by kernel_rfl) (by simp) ?_
      refine AllReadyH.cons rfl (fun K hK => ?_) AllReadyH.nil
      go_simp
      refine (cutH_calls _ _).mono ?_
      rintro e' w9 ⟨rfl, rfl⟩
      rw [hC]
      refine hK.out _ _ trivial (fun hHeld => ?_)
      clear hK K
      refine wpAnyH_take (i := 8) (v := .string (X ++ C)) rfl (by kernel_rfl) (by kernel_rfl) (by kernel_rfl) (fun _ _ _ h => h) (Or.inl ⟨by rfl, by rintro w -; go_simp⟩) hHeld ?_
      refine wpAnyH_ready (rs := [9]) (by kernel_rfl) (by simp) ?_
      refine AllReadyH.cons rfl (fun K hK => ?_) AllReadyH.nil
      go_simp
      refine (HR.out _ HT2.out).mono ?_
      rintro e' w3 ⟨rfl, hb⟩
      have HB3 := Lib.hid (HB2.out.trans (hb.mono HB2.out.size))
      have HT3 := Lib.hid (HT2.out.below hb)
      clear hb HB2 HT2 hcX
      refine hK.out _ _ trivial (fun hHeld => ?_)
      clear hK K
      refine wpAnyH_take (i := 10) (v := .tuple #[.int .i64 (m : Int), .int .i64 31, .int .u64 0, .string C, .int .i64 0]) rfl (by kernel_rfl) (by kernel_rfl) (by kernel_rfl) (fun _ _ _ h => h) (Or.inl ⟨by rfl, by rintro w -; go_simp⟩) hHeld ?_
      refine wpAnyH_take (i := 11) (v := .int .i64 (m : Int)) rfl (by kernel_rfl) (by kernel_rfl) (by kernel_rfl) (fun _ _ _ h => h) (Or.inl ⟨by rfl, by rintro w -; go_simp⟩) hHeld ?_
      refine wpAnyH_take (i := 12) (v := .int .i64 31) rfl (by kernel_rfl) (by kernel_rfl) (by kernel_rfl) (fun _ _ _ h => h) (Or.inl ⟨by rfl, by rintro w -; go_simp⟩) hHeld ?_
      refine wpAnyH_take (i := 13) (v := .int .u64 0) rfl (by kernel_rfl) (by kernel_rfl) (by kernel_rfl) (fun _ _ _ h => h) (Or.inl ⟨by rfl, by rintro w -; go_simp⟩) hHeld ?_
      refine wpAnyH_take (i := 14) (v := .string C) rfl (by kernel_rfl) (by kernel_rfl) (by kernel_rfl) (fun _ _ _ h => h) (Or.inl ⟨by rfl, by rintro w -; go_simp⟩) hHeld ?_
      refine wpAnyH_take (i := 15) (v := .int .i64 0) rfl (by kernel_rfl) (by kernel_rfl) (by kernel_rfl) (fun _ _ _ h => h) (Or.inl ⟨by rfl, by rintro w -; go_simp⟩) hHeld ?_
      refine wpAnyH_take (i := 16) (v := .int .i64 (m : Int)) rfl (by kernel_rfl) (by kernel_rfl) (by kernel_rfl) (fun _ _ _ h => h) (Or.inl ⟨by rfl, by rintro w -; go_simp⟩) hHeld ?_
      refine wpAnyH_take (i := 17) (v := .int .i64 31) rfl (by kernel_rfl) (by kernel_rfl) (by kernel_rfl) (fun _ _ _ h => h) (Or.inl ⟨by rfl, by rintro w -; go_simp⟩) hHeld ?_
      refine wpAnyH_take (i := 18) (v := .int .u64 0) rfl (by kernel_rfl) (by kernel_rfl) (by kernel_rfl) (fun _ _ _ h => h) (Or.inl ⟨by rfl, by rintro w -; go_simp⟩) hHeld ?_
      refine wpAnyH_take (i := 19) (v := .string C) rfl (by kernel_rfl) (by kernel_rfl) (by kernel_rfl) (fun _ _ _ h => h) (Or.inl ⟨by rfl, by rintro w -; go_simp⟩) hHeld ?_
      refine wpAnyH_take (i := 20) (v := .int .i64 0) rfl (by kernel_rfl) (by kernel_rfl) (by kernel_rfl) (fun _ _ _ h => h) (Or.inl ⟨by rfl, by rintro w -; go_simp⟩) hHeld ?_
      refine wpAnyH_done (by kernel_rfl) ?_ _
      clear hHeld
      clear hXC hw2 hw3 HR HV HB1 HT1
      go_wp2
      go_loopw [11] (fun x wr => ∃ i : Nat, x = .int .i64 (i : Int) ∧ 28 ≤ i ∧ i ≤ 31 ∧ Below w.heap.size w wr ∧ SizT wr) (fun x _ => 31 - (intOf x).toNat)
      case atStart => exact ⟨28, rfl, by omega, by omega, HB3.out, HT3.out⟩
      case round =>
        obtain ⟨i, rfl, h28, h31, hb, ht⟩ := hrel
        have HB0 := Lib.hid hb
        have HT0 := Lib.hid ht
        clear hb ht HB3 HT3
        by_cases hlt : i < 31
        · have hi31 : (i : Int) < 31 := by omega
          have HX := Lib.hid (HW.out · i hlt)
          have HQi := Lib.hid (HQ.out i (by omega))
          have hYi := HY.out i
          obtain ⟨Z, hZ⟩ : ∃ Z, Z = Y i := ⟨_, rfl⟩
          rw [← hZ] at HX HQi hYi
          have hXC : ¬ 9223372036854775807 < Z.size + C.size := by omega
          have hv2 : IntKind.i64.wrap (32 * (m : Int) + (i : Int)) = 32 * (m : Int) + (i : Int) := by rw [IntKind.wrap_i64]; have := HM.out; omega
          have hv3 : IntKind.u8.wrap (32 * (m : Int) + (i : Int)) = 32 * (m : Int) + (i : Int) := by rw [IntKind.wrap_u8]; have := HM.out; omega
          have hrr : (Z ++ C).toList == (Z ++ C).toList := by simp
          clear hZ
          go_wp2
          refine wp_region_held_drew (S := fun _ => True) hmxH trivial ?_
          obtain ⟨W1, hW1⟩ : ∃ W1, W1 = wr.drew := ⟨_, rfl⟩
          have HB1 := Lib.hid (show Below w.heap.size w W1 by rw [hW1]; exact HB0.out.drew)
          have HT1 := Lib.hid (show SizT W1 by rw [hW1]; exact HT0.out.below (Below.refl _ _).drew)
          rw [← hW1]
          clear hW1
          intro hHeld
          refine wpAnyH_take (i := 0) (v := .int .i64 (m : Int)) rfl (by kernel_rfl) (by kernel_rfl) (by kernel_rfl) (fun _ _ _ h => h) (Or.inl ⟨by rfl, by rintro w -; go_simp⟩) hHeld ?_
          refine wpAnyH_take (i := 1) (v := .int .i64 (32 * (m : Int))) rfl (by kernel_rfl) (by kernel_rfl) (by kernel_rfl) (fun _ _ _ h => h) (Or.inl ⟨by rfl, by rintro w -; go_simp⟩) hHeld ?_
          refine wpAnyH_take (i := 2) (v := .int .i64 (i : Int)) rfl (by kernel_rfl) (by kernel_rfl) (by kernel_rfl) (fun _ _ _ h => h) (Or.inl ⟨by rfl, by rintro w -; go_simp⟩) hHeld ?_
          refine wpAnyH_take (i := 3) (v := .int .i64 (32 * (m : Int) + (i : Int))) rfl (by kernel_rfl) (by kernel_rfl) (by kernel_rfl) (fun _ _ _ h => h) (Or.inl ⟨by rfl, by rintro w -; go_simp⟩) hHeld ?_
          refine wpAnyH_take (i := 4) (v := .int .u8 (32 * (m : Int) + (i : Int))) rfl (by kernel_rfl) (by kernel_rfl) (by kernel_rfl) (fun _ _ _ h => h) (Or.inl ⟨by rfl, by rintro w -; go_simp⟩) hHeld ?_
          refine wpAnyH_take (i := 7) (v := .string s) rfl (by kernel_rfl) (by kernel_rfl) (by kernel_rfl) (fun _ _ _ h => h) (Or.inl ⟨by rfl, by rintro w -; go_simp⟩) hHeld ?_
          refine wpAnyH_ready (rs := [5, 8]) (by kernel_rfl) (by simp) ?_
          refine AllReadyH.cons rfl (fun K hK => ?_) (AllReadyH.cons rfl (fun K hK => ?_) AllReadyH.nil)
          · go_simp
            obtain ⟨W2, hW2⟩ : ∃ W2, W2 = W1.alloc (.cells #[.int .u8 (32 * (m : Int) + (i : Int))] 5) := ⟨_, rfl⟩
            have hcX := HX.out W1
            rw [← hW2] at hcX ⊢
            have HB2 := Lib.hid (show Below w.heap.size w W2 by rw [hW2]; exact below_al HB1.out _)
            have HT2 := Lib.hid (show SizT W2 by rw [hW2]; exact HT1.out.below (below_al (Below.refl _ _) _))
            clear hW2
            refine hK.out _ _ trivial (fun hHeld => ?_)
            clear hK K
            refine wpAnyH_ready (rs := [6, 8]) (by kernel_rfl) (by simp) ?_
            refine AllReadyH.cons rfl (fun K hK => ?_) (AllReadyH.cons rfl (fun K hK => ?_) AllReadyH.nil)
            · go_simp
              refine hK.out _ _ trivial (fun hHeld => ?_)
              clear hK K
              refine wpAnyH_ready (rs := [8]) (by kernel_rfl) (by simp) ?_
              refine AllReadyH.cons rfl (fun K hK => ?_) AllReadyH.nil
              go_simp
              refine (cutH_calls _ _).mono ?_
              rintro e' w9 ⟨rfl, rfl⟩
              rw [hC]
              refine hK.out _ _ trivial (fun hHeld => ?_)
              clear hK K
              refine wpAnyH_take (i := 9) (v := .string (Z ++ C)) rfl (by kernel_rfl) (by kernel_rfl) (by kernel_rfl) (fun _ _ _ h => h) (Or.inl ⟨by rfl, by rintro w -; go_simp⟩) hHeld ?_
              refine wpAnyH_take (i := 10) (v := .string (Z ++ C)) rfl (by kernel_rfl) (by kernel_rfl) (by kernel_rfl) (fun _ _ _ h => h) (Or.inl ⟨by rfl, by rintro w -; go_simp⟩) hHeld ?_
              refine wpAnyH_done (by kernel_rfl) ?_ _
              clear hHeld hXC hv2 hv3 hcX HX
              go_wp2_with (go_at_call 13; (with_reducible refine (HQi.out _ HT2.out).mono ?_); rintro e' w3 ⟨rfl, hb⟩; have HB3 := Lib.hid (HB2.out.trans (hb.mono HB2.out.size)); have HT3 := Lib.hid (HT2.out.below hb); clear hb)
              go_roundw
              case rel => exact ⟨i + 1, by go_num, by omega, by omega, HB3.out, HT3.out⟩
              case measure => simp [intOf]; omega
            · go_simp
              refine (cutH_calls _ _).mono ?_
              rintro e' w9 ⟨rfl, rfl⟩
              rw [hC]
              refine hK.out _ _ trivial (fun hHeld => ?_)
              clear hK K
              refine wpAnyH_ready (rs := [6]) (by kernel_rfl) (by simp) ?_
              refine AllReadyH.cons rfl (fun K hK => ?_) AllReadyH.nil
              go_simp
              refine hK.out _ _ trivial (fun hHeld => ?_)
              clear hK K
              refine wpAnyH_take (i := 9) (v := .string (Z ++ C)) rfl (by kernel_rfl) (by kernel_rfl) (by kernel_rfl) (fun _ _ _ h => h) (Or.inl ⟨by rfl, by rintro w -; go_simp⟩) hHeld ?_
              refine wpAnyH_take (i := 10) (v := .string (Z ++ C)) rfl (by kernel_rfl) (by kernel_rfl) (by kernel_rfl) (fun _ _ _ h => h) (Or.inl ⟨by rfl, by rintro w -; go_simp⟩) hHeld ?_
              refine wpAnyH_done (by kernel_rfl) ?_ _
              clear hHeld hXC hv2 hv3 hcX HX
              go_wp2_with (go_at_call 13; (with_reducible refine (HQi.out _ HT2.out).mono ?_); rintro e' w3 ⟨rfl, hb⟩; have HB3 := Lib.hid (HB2.out.trans (hb.mono HB2.out.size)); have HT3 := Lib.hid (HT2.out.below hb); clear hb)
              go_roundw
              case rel => exact ⟨i + 1, by go_num, by omega, by omega, HB3.out, HT3.out⟩
              case measure => simp [intOf]; omega
          · go_simp
            refine (cutH_calls _ _).mono ?_
            rintro e' w9 ⟨rfl, rfl⟩
            rw [hC]
            refine hK.out _ _ trivial (fun hHeld => ?_)
            clear hK K
            refine wpAnyH_ready (rs := [5]) (by kernel_rfl) (by simp) ?_
            refine AllReadyH.cons rfl (fun K hK => ?_) AllReadyH.nil
            go_simp
            obtain ⟨W2, hW2⟩ : ∃ W2, W2 = W1.alloc (.cells #[.int .u8 (32 * (m : Int) + (i : Int))] 5) := ⟨_, rfl⟩
            have hcX := HX.out W1
            rw [← hW2] at hcX ⊢
            have HB2 := Lib.hid (show Below w.heap.size w W2 by rw [hW2]; exact below_al HB1.out _)
            have HT2 := Lib.hid (show SizT W2 by rw [hW2]; exact HT1.out.below (below_al (Below.refl _ _) _))
            clear hW2
            refine hK.out _ _ trivial (fun hHeld => ?_)
            clear hK K
            refine wpAnyH_ready (rs := [6]) (by kernel_rfl) (by simp) ?_
            refine AllReadyH.cons rfl (fun K hK => ?_) AllReadyH.nil
            go_simp
            refine hK.out _ _ trivial (fun hHeld => ?_)
            clear hK K
            refine wpAnyH_take (i := 9) (v := .string (Z ++ C)) rfl (by kernel_rfl) (by kernel_rfl) (by kernel_rfl) (fun _ _ _ h => h) (Or.inl ⟨by rfl, by rintro w -; go_simp⟩) hHeld ?_
            refine wpAnyH_take (i := 10) (v := .string (Z ++ C)) rfl (by kernel_rfl) (by kernel_rfl) (by kernel_rfl) (fun _ _ _ h => h) (Or.inl ⟨by rfl, by rintro w -; go_simp⟩) hHeld ?_
            refine wpAnyH_done (by kernel_rfl) ?_ _
            clear hHeld hXC hv2 hv3 hcX HX
            go_wp2_with (go_at_call 13; (with_reducible refine (HQi.out _ HT2.out).mono ?_); rintro e' w3 ⟨rfl, hb⟩; have HB3 := Lib.hid (HB2.out.trans (hb.mono HB2.out.size)); have HT3 := Lib.hid (HT2.out.below hb); clear hb)
            go_roundw
            case rel => exact ⟨i + 1, by go_num, by omega, by omega, HB3.out, HT3.out⟩
            case measure => simp [intOf]; omega
        · obtain rfl : i = 31 := by omega
          go_wp2_with (first
            | (go_at_call 14; refine (cutH_calls _ _).mono ?_; rintro e' w9 ⟨rfl, rfl⟩)
            | (go_at_call 18; (with_reducible refine (HI.out _ HT0.out).mono ?_); rintro e' w4 ⟨rfl, hb⟩; have HB4 := Lib.hid (HB0.out.trans (hb.mono HB0.out.size)); clear hb))
          go_ret
          exact ⟨rfl, HB4.out⟩
    · go_simp
      refine (cutH_calls _ _).mono ?_
      rintro e' w9 ⟨rfl, rfl⟩
      rw [hC]
      refine hK.out _ _ trivial (fun hHeld => ?_)
      clear hK K
      refine wpAnyH_ready (rs := [5]) (by kernel_rfl) (by simp) ?_
      refine AllReadyH.cons rfl (fun K hK => ?_) AllReadyH.nil
      go_simp
      refine hK.out _ _ trivial (fun hHeld => ?_)
      clear hK K
      refine wpAnyH_take (i := 8) (v := .string (X ++ C)) rfl (by kernel_rfl) (by kernel_rfl) (by kernel_rfl) (fun _ _ _ h => h) (Or.inl ⟨by rfl, by rintro w -; go_simp⟩) hHeld ?_
      refine wpAnyH_ready (rs := [9]) (by kernel_rfl) (by simp) ?_
      refine AllReadyH.cons rfl (fun K hK => ?_) AllReadyH.nil
      go_simp
      refine (HR.out _ HT2.out).mono ?_
      rintro e' w3 ⟨rfl, hb⟩
      have HB3 := Lib.hid (HB2.out.trans (hb.mono HB2.out.size))
      have HT3 := Lib.hid (HT2.out.below hb)
      clear hb HB2 HT2 hcX
      refine hK.out _ _ trivial (fun hHeld => ?_)
      clear hK K
      refine wpAnyH_take (i := 10) (v := .tuple #[.int .i64 (m : Int), .int .i64 31, .int .u64 0, .string C, .int .i64 0]) rfl (by kernel_rfl) (by kernel_rfl) (by kernel_rfl) (fun _ _ _ h => h) (Or.inl ⟨by rfl, by rintro w -; go_simp⟩) hHeld ?_
      refine wpAnyH_take (i := 11) (v := .int .i64 (m : Int)) rfl (by kernel_rfl) (by kernel_rfl) (by kernel_rfl) (fun _ _ _ h => h) (Or.inl ⟨by rfl, by rintro w -; go_simp⟩) hHeld ?_
      refine wpAnyH_take (i := 12) (v := .int .i64 31) rfl (by kernel_rfl) (by kernel_rfl) (by kernel_rfl) (fun _ _ _ h => h) (Or.inl ⟨by rfl, by rintro w -; go_simp⟩) hHeld ?_
      refine wpAnyH_take (i := 13) (v := .int .u64 0) rfl (by kernel_rfl) (by kernel_rfl) (by kernel_rfl) (fun _ _ _ h => h) (Or.inl ⟨by rfl, by rintro w -; go_simp⟩) hHeld ?_
      refine wpAnyH_take (i := 14) (v := .string C) rfl (by kernel_rfl) (by kernel_rfl) (by kernel_rfl) (fun _ _ _ h => h) (Or.inl ⟨by rfl, by rintro w -; go_simp⟩) hHeld ?_
      refine wpAnyH_take (i := 15) (v := .int .i64 0) rfl (by kernel_rfl) (by kernel_rfl) (by kernel_rfl) (fun _ _ _ h => h) (Or.inl ⟨by rfl, by rintro w -; go_simp⟩) hHeld ?_
      refine wpAnyH_take (i := 16) (v := .int .i64 (m : Int)) rfl (by kernel_rfl) (by kernel_rfl) (by kernel_rfl) (fun _ _ _ h => h) (Or.inl ⟨by rfl, by rintro w -; go_simp⟩) hHeld ?_
      refine wpAnyH_take (i := 17) (v := .int .i64 31) rfl (by kernel_rfl) (by kernel_rfl) (by kernel_rfl) (fun _ _ _ h => h) (Or.inl ⟨by rfl, by rintro w -; go_simp⟩) hHeld ?_
      refine wpAnyH_take (i := 18) (v := .int .u64 0) rfl (by kernel_rfl) (by kernel_rfl) (by kernel_rfl) (fun _ _ _ h => h) (Or.inl ⟨by rfl, by rintro w -; go_simp⟩) hHeld ?_
      refine wpAnyH_take (i := 19) (v := .string C) rfl (by kernel_rfl) (by kernel_rfl) (by kernel_rfl) (fun _ _ _ h => h) (Or.inl ⟨by rfl, by rintro w -; go_simp⟩) hHeld ?_
      refine wpAnyH_take (i := 20) (v := .int .i64 0) rfl (by kernel_rfl) (by kernel_rfl) (by kernel_rfl) (fun _ _ _ h => h) (Or.inl ⟨by rfl, by rintro w -; go_simp⟩) hHeld ?_
      refine wpAnyH_done (by kernel_rfl) ?_ _
      clear hHeld
      clear hXC hw2 hw3 HR HV HB1 HT1
      go_wp2
      go_loopw [11] (fun x wr => ∃ i : Nat, x = .int .i64 (i : Int) ∧ 28 ≤ i ∧ i ≤ 31 ∧ Below w.heap.size w wr ∧ SizT wr) (fun x _ => 31 - (intOf x).toNat)
      case atStart => exact ⟨28, rfl, by omega, by omega, HB3.out, HT3.out⟩
      case round =>
        obtain ⟨i, rfl, h28, h31, hb, ht⟩ := hrel
        have HB0 := Lib.hid hb
        have HT0 := Lib.hid ht
        clear hb ht HB3 HT3
        by_cases hlt : i < 31
        · have hi31 : (i : Int) < 31 := by omega
          have HX := Lib.hid (HW.out · i hlt)
          have HQi := Lib.hid (HQ.out i (by omega))
          have hYi := HY.out i
          obtain ⟨Z, hZ⟩ : ∃ Z, Z = Y i := ⟨_, rfl⟩
          rw [← hZ] at HX HQi hYi
          have hXC : ¬ 9223372036854775807 < Z.size + C.size := by omega
          have hv2 : IntKind.i64.wrap (32 * (m : Int) + (i : Int)) = 32 * (m : Int) + (i : Int) := by rw [IntKind.wrap_i64]; have := HM.out; omega
          have hv3 : IntKind.u8.wrap (32 * (m : Int) + (i : Int)) = 32 * (m : Int) + (i : Int) := by rw [IntKind.wrap_u8]; have := HM.out; omega
          have hrr : (Z ++ C).toList == (Z ++ C).toList := by simp
          clear hZ
          go_wp2
          refine wp_region_held_drew (S := fun _ => True) hmxH trivial ?_
          obtain ⟨W1, hW1⟩ : ∃ W1, W1 = wr.drew := ⟨_, rfl⟩
          have HB1 := Lib.hid (show Below w.heap.size w W1 by rw [hW1]; exact HB0.out.drew)
          have HT1 := Lib.hid (show SizT W1 by rw [hW1]; exact HT0.out.below (Below.refl _ _).drew)
          rw [← hW1]
          clear hW1
          intro hHeld
          refine wpAnyH_take (i := 0) (v := .int .i64 (m : Int)) rfl (by kernel_rfl) (by kernel_rfl) (by kernel_rfl) (fun _ _ _ h => h) (Or.inl ⟨by rfl, by rintro w -; go_simp⟩) hHeld ?_
          refine wpAnyH_take (i := 1) (v := .int .i64 (32 * (m : Int))) rfl (by kernel_rfl) (by kernel_rfl) (by kernel_rfl) (fun _ _ _ h => h) (Or.inl ⟨by rfl, by rintro w -; go_simp⟩) hHeld ?_
          refine wpAnyH_take (i := 2) (v := .int .i64 (i : Int)) rfl (by kernel_rfl) (by kernel_rfl) (by kernel_rfl) (fun _ _ _ h => h) (Or.inl ⟨by rfl, by rintro w -; go_simp⟩) hHeld ?_
          refine wpAnyH_take (i := 3) (v := .int .i64 (32 * (m : Int) + (i : Int))) rfl (by kernel_rfl) (by kernel_rfl) (by kernel_rfl) (fun _ _ _ h => h) (Or.inl ⟨by rfl, by rintro w -; go_simp⟩) hHeld ?_
          refine wpAnyH_take (i := 4) (v := .int .u8 (32 * (m : Int) + (i : Int))) rfl (by kernel_rfl) (by kernel_rfl) (by kernel_rfl) (fun _ _ _ h => h) (Or.inl ⟨by rfl, by rintro w -; go_simp⟩) hHeld ?_
          refine wpAnyH_take (i := 7) (v := .string s) rfl (by kernel_rfl) (by kernel_rfl) (by kernel_rfl) (fun _ _ _ h => h) (Or.inl ⟨by rfl, by rintro w -; go_simp⟩) hHeld ?_
          refine wpAnyH_ready (rs := [5, 8]) (by kernel_rfl) (by simp) ?_
          refine AllReadyH.cons rfl (fun K hK => ?_) (AllReadyH.cons rfl (fun K hK => ?_) AllReadyH.nil)
          · go_simp
            obtain ⟨W2, hW2⟩ : ∃ W2, W2 = W1.alloc (.cells #[.int .u8 (32 * (m : Int) + (i : Int))] 5) := ⟨_, rfl⟩
            have hcX := HX.out W1
            rw [← hW2] at hcX ⊢
            have HB2 := Lib.hid (show Below w.heap.size w W2 by rw [hW2]; exact below_al HB1.out _)
            have HT2 := Lib.hid (show SizT W2 by rw [hW2]; exact HT1.out.below (below_al (Below.refl _ _) _))
            clear hW2
            refine hK.out _ _ trivial (fun hHeld => ?_)
            clear hK K
            refine wpAnyH_ready (rs := [6, 8]) (by kernel_rfl) (by simp) ?_
            refine AllReadyH.cons rfl (fun K hK => ?_) (AllReadyH.cons rfl (fun K hK => ?_) AllReadyH.nil)
            · go_simp
              refine hK.out _ _ trivial (fun hHeld => ?_)
              clear hK K
              refine wpAnyH_ready (rs := [8]) (by kernel_rfl) (by simp) ?_
              refine AllReadyH.cons rfl (fun K hK => ?_) AllReadyH.nil
              go_simp
              refine (cutH_calls _ _).mono ?_
              rintro e' w9 ⟨rfl, rfl⟩
              rw [hC]
              refine hK.out _ _ trivial (fun hHeld => ?_)
              clear hK K
              refine wpAnyH_take (i := 9) (v := .string (Z ++ C)) rfl (by kernel_rfl) (by kernel_rfl) (by kernel_rfl) (fun _ _ _ h => h) (Or.inl ⟨by rfl, by rintro w -; go_simp⟩) hHeld ?_
              refine wpAnyH_take (i := 10) (v := .string (Z ++ C)) rfl (by kernel_rfl) (by kernel_rfl) (by kernel_rfl) (fun _ _ _ h => h) (Or.inl ⟨by rfl, by rintro w -; go_simp⟩) hHeld ?_
              refine wpAnyH_done (by kernel_rfl) ?_ _
              clear hHeld hXC hv2 hv3 hcX HX
              go_wp2_with (go_at_call 13; (with_reducible refine (HQi.out _ HT2.out).mono ?_); rintro e' w3 ⟨rfl, hb⟩; have HB3 := Lib.hid (HB2.out.trans (hb.mono HB2.out.size)); have HT3 := Lib.hid (HT2.out.below hb); clear hb)
              go_roundw
              case rel => exact ⟨i + 1, by go_num, by omega, by omega, HB3.out, HT3.out⟩
              case measure => simp [intOf]; omega
            · go_simp
              refine (cutH_calls _ _).mono ?_
              rintro e' w9 ⟨rfl, rfl⟩
              rw [hC]
              refine hK.out _ _ trivial (fun hHeld => ?_)
              clear hK K
              refine wpAnyH_ready (rs := [6]) (by kernel_rfl) (by simp) ?_
              refine AllReadyH.cons rfl (fun K hK => ?_) AllReadyH.nil
              go_simp
              refine hK.out _ _ trivial (fun hHeld => ?_)
              clear hK K
              refine wpAnyH_take (i := 9) (v := .string (Z ++ C)) rfl (by kernel_rfl) (by kernel_rfl) (by kernel_rfl) (fun _ _ _ h => h) (Or.inl ⟨by rfl, by rintro w -; go_simp⟩) hHeld ?_
              refine wpAnyH_take (i := 10) (v := .string (Z ++ C)) rfl (by kernel_rfl) (by kernel_rfl) (by kernel_rfl) (fun _ _ _ h => h) (Or.inl ⟨by rfl, by rintro w -; go_simp⟩) hHeld ?_
              refine wpAnyH_done (by kernel_rfl) ?_ _
              clear hHeld hXC hv2 hv3 hcX HX
              go_wp2_with (go_at_call 13; (with_reducible refine (HQi.out _ HT2.out).mono ?_); rintro e' w3 ⟨rfl, hb⟩; have HB3 := Lib.hid (HB2.out.trans (hb.mono HB2.out.size)); have HT3 := Lib.hid (HT2.out.below hb); clear hb)
              go_roundw
              case rel => exact ⟨i + 1, by go_num, by omega, by omega, HB3.out, HT3.out⟩
              case measure => simp [intOf]; omega
          · go_simp
            refine (cutH_calls _ _).mono ?_
            rintro e' w9 ⟨rfl, rfl⟩
            rw [hC]
            refine hK.out _ _ trivial (fun hHeld => ?_)
            clear hK K
            refine wpAnyH_ready (rs := [5]) (by kernel_rfl) (by simp) ?_
            refine AllReadyH.cons rfl (fun K hK => ?_) AllReadyH.nil
            go_simp
            obtain ⟨W2, hW2⟩ : ∃ W2, W2 = W1.alloc (.cells #[.int .u8 (32 * (m : Int) + (i : Int))] 5) := ⟨_, rfl⟩
            have hcX := HX.out W1
            rw [← hW2] at hcX ⊢
            have HB2 := Lib.hid (show Below w.heap.size w W2 by rw [hW2]; exact below_al HB1.out _)
            have HT2 := Lib.hid (show SizT W2 by rw [hW2]; exact HT1.out.below (below_al (Below.refl _ _) _))
            clear hW2
            refine hK.out _ _ trivial (fun hHeld => ?_)
            clear hK K
            refine wpAnyH_ready (rs := [6]) (by kernel_rfl) (by simp) ?_
            refine AllReadyH.cons rfl (fun K hK => ?_) AllReadyH.nil
            go_simp
            refine hK.out _ _ trivial (fun hHeld => ?_)
            clear hK K
            refine wpAnyH_take (i := 9) (v := .string (Z ++ C)) rfl (by kernel_rfl) (by kernel_rfl) (by kernel_rfl) (fun _ _ _ h => h) (Or.inl ⟨by rfl, by rintro w -; go_simp⟩) hHeld ?_
            refine wpAnyH_take (i := 10) (v := .string (Z ++ C)) rfl (by kernel_rfl) (by kernel_rfl) (by kernel_rfl) (fun _ _ _ h => h) (Or.inl ⟨by rfl, by rintro w -; go_simp⟩) hHeld ?_
            refine wpAnyH_done (by kernel_rfl) ?_ _
            clear hHeld hXC hv2 hv3 hcX HX
            go_wp2_with (go_at_call 13; (with_reducible refine (HQi.out _ HT2.out).mono ?_); rintro e' w3 ⟨rfl, hb⟩; have HB3 := Lib.hid (HB2.out.trans (hb.mono HB2.out.size)); have HT3 := Lib.hid (HT2.out.below hb); clear hb)
            go_roundw
            case rel => exact ⟨i + 1, by go_num, by omega, by omega, HB3.out, HT3.out⟩
            case measure => simp [intOf]; omega
        · obtain rfl : i = 31 := by omega
          go_wp2_with (first
            | (go_at_call 14; refine (cutH_calls _ _).mono ?_; rintro e' w9 ⟨rfl, rfl⟩)
            | (go_at_call 18; (with_reducible refine (HI.out _ HT0.out).mono ?_); rintro e' w4 ⟨rfl, hb⟩; have HB4 := Lib.hid (HB0.out.trans (hb.mono HB0.out.size)); clear hb))
          go_ret
          exact ⟨rfl, HB4.out⟩
  · go_simp
    refine (cutH_calls _ _).mono ?_
    rintro e' w9 ⟨rfl, rfl⟩
    rw [hC]
    refine hK.out _ _ trivial (fun hHeld => ?_)
    clear hK K
    refine wpAnyH_ready (rs := [4]) (by kernel_rfl) (by simp) ?_
    refine AllReadyH.cons rfl (fun K hK => ?_) AllReadyH.nil
    go_simp
    obtain ⟨W2, hW2⟩ : ∃ W2, W2 = W1.alloc (.cells #[.int .u8 (32 * (m : Int) + 31)] 5) := ⟨_, rfl⟩
    have hcX := HV.out W1
    rw [← hW2] at hcX ⊢
    have HB2 := Lib.hid (show Below w.heap.size w W2 by rw [hW2]; exact below_al HB1.out _)
    have HT2 := Lib.hid (show SizT W2 by rw [hW2]; exact HT1.out.below (below_al (Below.refl _ _) _))
    clear hW2
    refine hK.out _ _ trivial (fun hHeld => ?_)
    clear hK K
    refine wpAnyH_ready (rs := [5]) (by kernel_rfl) (by simp) ?_
    refine AllReadyH.cons rfl (fun K hK => ?_) AllReadyH.nil
    go_simp
    refine hK.out _ _ trivial (fun hHeld => ?_)
    clear hK K
    refine wpAnyH_take (i := 8) (v := .string (X ++ C)) rfl (by kernel_rfl) (by kernel_rfl) (by kernel_rfl) (fun _ _ _ h => h) (Or.inl ⟨by rfl, by rintro w -; go_simp⟩) hHeld ?_
    refine wpAnyH_ready (rs := [9]) (by kernel_rfl) (by simp) ?_
    refine AllReadyH.cons rfl (fun K hK => ?_) AllReadyH.nil
    go_simp
    refine (HR.out _ HT2.out).mono ?_
    rintro e' w3 ⟨rfl, hb⟩
    have HB3 := Lib.hid (HB2.out.trans (hb.mono HB2.out.size))
    have HT3 := Lib.hid (HT2.out.below hb)
    clear hb HB2 HT2 hcX
    refine hK.out _ _ trivial (fun hHeld => ?_)
    clear hK K
    refine wpAnyH_take (i := 10) (v := .tuple #[.int .i64 (m : Int), .int .i64 31, .int .u64 0, .string C, .int .i64 0]) rfl (by kernel_rfl) (by kernel_rfl) (by kernel_rfl) (fun _ _ _ h => h) (Or.inl ⟨by rfl, by rintro w -; go_simp⟩) hHeld ?_
    refine wpAnyH_take (i := 11) (v := .int .i64 (m : Int)) rfl (by kernel_rfl) (by kernel_rfl) (by kernel_rfl) (fun _ _ _ h => h) (Or.inl ⟨by rfl, by rintro w -; go_simp⟩) hHeld ?_
    refine wpAnyH_take (i := 12) (v := .int .i64 31) rfl (by kernel_rfl) (by kernel_rfl) (by kernel_rfl) (fun _ _ _ h => h) (Or.inl ⟨by rfl, by rintro w -; go_simp⟩) hHeld ?_
    refine wpAnyH_take (i := 13) (v := .int .u64 0) rfl (by kernel_rfl) (by kernel_rfl) (by kernel_rfl) (fun _ _ _ h => h) (Or.inl ⟨by rfl, by rintro w -; go_simp⟩) hHeld ?_
    refine wpAnyH_take (i := 14) (v := .string C) rfl (by kernel_rfl) (by kernel_rfl) (by kernel_rfl) (fun _ _ _ h => h) (Or.inl ⟨by rfl, by rintro w -; go_simp⟩) hHeld ?_
    refine wpAnyH_take (i := 15) (v := .int .i64 0) rfl (by kernel_rfl) (by kernel_rfl) (by kernel_rfl) (fun _ _ _ h => h) (Or.inl ⟨by rfl, by rintro w -; go_simp⟩) hHeld ?_
    refine wpAnyH_take (i := 16) (v := .int .i64 (m : Int)) rfl (by kernel_rfl) (by kernel_rfl) (by kernel_rfl) (fun _ _ _ h => h) (Or.inl ⟨by rfl, by rintro w -; go_simp⟩) hHeld ?_
    refine wpAnyH_take (i := 17) (v := .int .i64 31) rfl (by kernel_rfl) (by kernel_rfl) (by kernel_rfl) (fun _ _ _ h => h) (Or.inl ⟨by rfl, by rintro w -; go_simp⟩) hHeld ?_
    refine wpAnyH_take (i := 18) (v := .int .u64 0) rfl (by kernel_rfl) (by kernel_rfl) (by kernel_rfl) (fun _ _ _ h => h) (Or.inl ⟨by rfl, by rintro w -; go_simp⟩) hHeld ?_
    refine wpAnyH_take (i := 19) (v := .string C) rfl (by kernel_rfl) (by kernel_rfl) (by kernel_rfl) (fun _ _ _ h => h) (Or.inl ⟨by rfl, by rintro w -; go_simp⟩) hHeld ?_
    refine wpAnyH_take (i := 20) (v := .int .i64 0) rfl (by kernel_rfl) (by kernel_rfl) (by kernel_rfl) (fun _ _ _ h => h) (Or.inl ⟨by rfl, by rintro w -; go_simp⟩) hHeld ?_
    refine wpAnyH_done (by kernel_rfl) ?_ _
    clear hHeld
    clear hXC hw2 hw3 HR HV HB1 HT1
    go_wp2
    go_loopw [11] (fun x wr => ∃ i : Nat, x = .int .i64 (i : Int) ∧ 28 ≤ i ∧ i ≤ 31 ∧ Below w.heap.size w wr ∧ SizT wr) (fun x _ => 31 - (intOf x).toNat)
    case atStart => exact ⟨28, rfl, by omega, by omega, HB3.out, HT3.out⟩
    case round =>
      obtain ⟨i, rfl, h28, h31, hb, ht⟩ := hrel
      have HB0 := Lib.hid hb
      have HT0 := Lib.hid ht
      clear hb ht HB3 HT3
      by_cases hlt : i < 31
      · have hi31 : (i : Int) < 31 := by omega
        have HX := Lib.hid (HW.out · i hlt)
        have HQi := Lib.hid (HQ.out i (by omega))
        have hYi := HY.out i
        obtain ⟨Z, hZ⟩ : ∃ Z, Z = Y i := ⟨_, rfl⟩
        rw [← hZ] at HX HQi hYi
        have hXC : ¬ 9223372036854775807 < Z.size + C.size := by omega
        have hv2 : IntKind.i64.wrap (32 * (m : Int) + (i : Int)) = 32 * (m : Int) + (i : Int) := by rw [IntKind.wrap_i64]; have := HM.out; omega
        have hv3 : IntKind.u8.wrap (32 * (m : Int) + (i : Int)) = 32 * (m : Int) + (i : Int) := by rw [IntKind.wrap_u8]; have := HM.out; omega
        have hrr : (Z ++ C).toList == (Z ++ C).toList := by simp
        clear hZ
        go_wp2
        refine wp_region_held_drew (S := fun _ => True) hmxH trivial ?_
        obtain ⟨W1, hW1⟩ : ∃ W1, W1 = wr.drew := ⟨_, rfl⟩
        have HB1 := Lib.hid (show Below w.heap.size w W1 by rw [hW1]; exact HB0.out.drew)
        have HT1 := Lib.hid (show SizT W1 by rw [hW1]; exact HT0.out.below (Below.refl _ _).drew)
        rw [← hW1]
        clear hW1
        intro hHeld
        refine wpAnyH_take (i := 0) (v := .int .i64 (m : Int)) rfl (by kernel_rfl) (by kernel_rfl) (by kernel_rfl) (fun _ _ _ h => h) (Or.inl ⟨by rfl, by rintro w -; go_simp⟩) hHeld ?_
        refine wpAnyH_take (i := 1) (v := .int .i64 (32 * (m : Int))) rfl (by kernel_rfl) (by kernel_rfl) (by kernel_rfl) (fun _ _ _ h => h) (Or.inl ⟨by rfl, by rintro w -; go_simp⟩) hHeld ?_
        refine wpAnyH_take (i := 2) (v := .int .i64 (i : Int)) rfl (by kernel_rfl) (by kernel_rfl) (by kernel_rfl) (fun _ _ _ h => h) (Or.inl ⟨by rfl, by rintro w -; go_simp⟩) hHeld ?_
        refine wpAnyH_take (i := 3) (v := .int .i64 (32 * (m : Int) + (i : Int))) rfl (by kernel_rfl) (by kernel_rfl) (by kernel_rfl) (fun _ _ _ h => h) (Or.inl ⟨by rfl, by rintro w -; go_simp⟩) hHeld ?_
        refine wpAnyH_take (i := 4) (v := .int .u8 (32 * (m : Int) + (i : Int))) rfl (by kernel_rfl) (by kernel_rfl) (by kernel_rfl) (fun _ _ _ h => h) (Or.inl ⟨by rfl, by rintro w -; go_simp⟩) hHeld ?_
        refine wpAnyH_take (i := 7) (v := .string s) rfl (by kernel_rfl) (by kernel_rfl) (by kernel_rfl) (fun _ _ _ h => h) (Or.inl ⟨by rfl, by rintro w -; go_simp⟩) hHeld ?_
        refine wpAnyH_ready (rs := [5, 8]) (by kernel_rfl) (by simp) ?_
        refine AllReadyH.cons rfl (fun K hK => ?_) (AllReadyH.cons rfl (fun K hK => ?_) AllReadyH.nil)
        · go_simp
          obtain ⟨W2, hW2⟩ : ∃ W2, W2 = W1.alloc (.cells #[.int .u8 (32 * (m : Int) + (i : Int))] 5) := ⟨_, rfl⟩
          have hcX := HX.out W1
          rw [← hW2] at hcX ⊢
          have HB2 := Lib.hid (show Below w.heap.size w W2 by rw [hW2]; exact below_al HB1.out _)
          have HT2 := Lib.hid (show SizT W2 by rw [hW2]; exact HT1.out.below (below_al (Below.refl _ _) _))
          clear hW2
          refine hK.out _ _ trivial (fun hHeld => ?_)
          clear hK K
          refine wpAnyH_ready (rs := [6, 8]) (by kernel_rfl) (by simp) ?_
          refine AllReadyH.cons rfl (fun K hK => ?_) (AllReadyH.cons rfl (fun K hK => ?_) AllReadyH.nil)
          · go_simp
            refine hK.out _ _ trivial (fun hHeld => ?_)
            clear hK K
            refine wpAnyH_ready (rs := [8]) (by kernel_rfl) (by simp) ?_
            refine AllReadyH.cons rfl (fun K hK => ?_) AllReadyH.nil
            go_simp
            refine (cutH_calls _ _).mono ?_
            rintro e' w9 ⟨rfl, rfl⟩
            rw [hC]
            refine hK.out _ _ trivial (fun hHeld => ?_)
            clear hK K
            refine wpAnyH_take (i := 9) (v := .string (Z ++ C)) rfl (by kernel_rfl) (by kernel_rfl) (by kernel_rfl) (fun _ _ _ h => h) (Or.inl ⟨by rfl, by rintro w -; go_simp⟩) hHeld ?_
            refine wpAnyH_take (i := 10) (v := .string (Z ++ C)) rfl (by kernel_rfl) (by kernel_rfl) (by kernel_rfl) (fun _ _ _ h => h) (Or.inl ⟨by rfl, by rintro w -; go_simp⟩) hHeld ?_
            refine wpAnyH_done (by kernel_rfl) ?_ _
            clear hHeld hXC hv2 hv3 hcX HX
            go_wp2_with (go_at_call 13; (with_reducible refine (HQi.out _ HT2.out).mono ?_); rintro e' w3 ⟨rfl, hb⟩; have HB3 := Lib.hid (HB2.out.trans (hb.mono HB2.out.size)); have HT3 := Lib.hid (HT2.out.below hb); clear hb)
            go_roundw
            case rel => exact ⟨i + 1, by go_num, by omega, by omega, HB3.out, HT3.out⟩
            case measure => simp [intOf]; omega
          · go_simp
            refine (cutH_calls _ _).mono ?_
            rintro e' w9 ⟨rfl, rfl⟩
            rw [hC]
            refine hK.out _ _ trivial (fun hHeld => ?_)
            clear hK K
            refine wpAnyH_ready (rs := [6]) (by kernel_rfl) (by simp) ?_
            refine AllReadyH.cons rfl (fun K hK => ?_) AllReadyH.nil
            go_simp
            refine hK.out _ _ trivial (fun hHeld => ?_)
            clear hK K
            refine wpAnyH_take (i := 9) (v := .string (Z ++ C)) rfl (by kernel_rfl) (by kernel_rfl) (by kernel_rfl) (fun _ _ _ h => h) (Or.inl ⟨by rfl, by rintro w -; go_simp⟩) hHeld ?_
            refine wpAnyH_take (i := 10) (v := .string (Z ++ C)) rfl (by kernel_rfl) (by kernel_rfl) (by kernel_rfl) (fun _ _ _ h => h) (Or.inl ⟨by rfl, by rintro w -; go_simp⟩) hHeld ?_
            refine wpAnyH_done (by kernel_rfl) ?_ _
            clear hHeld hXC hv2 hv3 hcX HX
            go_wp2_with (go_at_call 13; (with_reducible refine (HQi.out _ HT2.out).mono ?_); rintro e' w3 ⟨rfl, hb⟩; have HB3 := Lib.hid (HB2.out.trans (hb.mono HB2.out.size)); have HT3 := Lib.hid (HT2.out.below hb); clear hb)
            go_roundw
            case rel => exact ⟨i + 1, by go_num, by omega, by omega, HB3.out, HT3.out⟩
            case measure => simp [intOf]; omega
        · go_simp
          refine (cutH_calls _ _).mono ?_
          rintro e' w9 ⟨rfl, rfl⟩
          rw [hC]
          refine hK.out _ _ trivial (fun hHeld => ?_)
          clear hK K
          refine wpAnyH_ready (rs := [5]) (by kernel_rfl) (by simp) ?_
          refine AllReadyH.cons rfl (fun K hK => ?_) AllReadyH.nil
          go_simp
          obtain ⟨W2, hW2⟩ : ∃ W2, W2 = W1.alloc (.cells #[.int .u8 (32 * (m : Int) + (i : Int))] 5) := ⟨_, rfl⟩
          have hcX := HX.out W1
          rw [← hW2] at hcX ⊢
          have HB2 := Lib.hid (show Below w.heap.size w W2 by rw [hW2]; exact below_al HB1.out _)
          have HT2 := Lib.hid (show SizT W2 by rw [hW2]; exact HT1.out.below (below_al (Below.refl _ _) _))
          clear hW2
          refine hK.out _ _ trivial (fun hHeld => ?_)
          clear hK K
          refine wpAnyH_ready (rs := [6]) (by kernel_rfl) (by simp) ?_
          refine AllReadyH.cons rfl (fun K hK => ?_) AllReadyH.nil
          go_simp
          refine hK.out _ _ trivial (fun hHeld => ?_)
          clear hK K
          refine wpAnyH_take (i := 9) (v := .string (Z ++ C)) rfl (by kernel_rfl) (by kernel_rfl) (by kernel_rfl) (fun _ _ _ h => h) (Or.inl ⟨by rfl, by rintro w -; go_simp⟩) hHeld ?_
          refine wpAnyH_take (i := 10) (v := .string (Z ++ C)) rfl (by kernel_rfl) (by kernel_rfl) (by kernel_rfl) (fun _ _ _ h => h) (Or.inl ⟨by rfl, by rintro w -; go_simp⟩) hHeld ?_
          refine wpAnyH_done (by kernel_rfl) ?_ _
          clear hHeld hXC hv2 hv3 hcX HX
          go_wp2_with (go_at_call 13; (with_reducible refine (HQi.out _ HT2.out).mono ?_); rintro e' w3 ⟨rfl, hb⟩; have HB3 := Lib.hid (HB2.out.trans (hb.mono HB2.out.size)); have HT3 := Lib.hid (HT2.out.below hb); clear hb)
          go_roundw
          case rel => exact ⟨i + 1, by go_num, by omega, by omega, HB3.out, HT3.out⟩
          case measure => simp [intOf]; omega
      · obtain rfl : i = 31 := by omega
        go_wp2_with (first
          | (go_at_call 14; refine (cutH_calls _ _).mono ?_; rintro e' w9 ⟨rfl, rfl⟩)
          | (go_at_call 18; (with_reducible refine (HI.out _ HT0.out).mono ?_); rintro e' w4 ⟨rfl, hb⟩; have HB4 := Lib.hid (HB0.out.trans (hb.mono HB0.out.size)); clear hb))
        go_ret
        exact ⟨rfl, HB4.out⟩

theorem opens_calls (m : Int) (s : ByteArray) (w : World) (hT : SizT w) : Calls Tryd.prog 9 #[.int .i64 m, .string s] w fun e w' => e = .returned (.bool true) ∧ Below w.heap.size w w' := by
  by_cases hm : 0 ≤ m ∧ m ≤ 7
  · obtain ⟨q, rfl⟩ : ∃ q : Nat, m = (q : Int) := ⟨m.toNat, by omega⟩
    have hq : q < 8 := by omega
    have hR := Read_ans (⟨#[UInt8.ofNat (32 * q + 31)]⟩ ++ cutH s)
    rw [readT_open hq] at hR
    refine opens_some q s ⟨#[UInt8.ofNat (32 * q + 31)]⟩ (cutH s) (fun i => ⟨#[UInt8.ofNat (32 * q + i)]⟩) w hT hq rfl (cutH_size s) (Nat.le_refl _) (fun _ => Nat.le_refl _)
      (fun W => conv1 W _ _ (show (32 * (q : Int) + 31) = ((UInt8.ofNat (32 * q + 31)).toNat : Int) from c_nat (I := 31) hq (by decide))) (fun W i hi => conv1 W _ _ (c_nat hq (by omega))) hR (fun i hi => ?_) ?_
    · have hQ := Read_ans (⟨#[UInt8.ofNat (32 * q + i)]⟩ ++ cutH s)
      rw [readT_bad hq hi] at hQ
      exact hQ
    · exact IsShort_ans 31 0 (by decide)
  · exact opens_none m s w hT (by omega)
end Go.Proofs.YtgaaiiacdeejfaaDoor
