/- The program's own: Read. -/
import Derived.Test.YtgaaiiacdeejfaaDoorQ7
import Derived.ScopeJumps
namespace Go.Proofs.YtgaaiiacdeejfaaDoor
open Go.RowKit

/-- What a text begins with: the major, the info, the argument, what is behind it, the error. -/
def readT (s : ByteArray) : Nat × Nat × Nat × ByteArray × Int :=
  if s.size = 0 then (0, 0, 0, s, 100) else
  match nby ((byteAt s 0).toNat % 32) with
  | none => (0, 0, 0, s, 101)
  | some n => if s.size < 1 + n then (0, 0, 0, s, 100) else
    ((byteAt s 0).toNat / 32, (byteAt s 0).toNat % 32, argV ((byteAt s 0).toNat % 32) (s.extract 1 (1 + n)).data.toList, s.extract (1 + n) s.size, 0)
def rdV (r : Nat × Nat × Nat × ByteArray × Int) : Value := .tuple #[.int .i64 (r.1 : Int), .int .i64 (r.2.1 : Int), .int .u64 (r.2.2.1 : Int), .string r.2.2.2.1, .int .i64 r.2.2.2.2]
theorem not_emptyH {s : ByteArray} (h : 0 < s.size) : s.toList.isEmpty = false := by
  rw [ByteArray.toList_eq]
  cases e : s.data.toList with
  | nil =>
    have := congrArg List.length e
    rw [Array.length_toList, List.length_nil] at this
    have h1 : s.data.size = s.size := rfl
    omega
  | cons => rfl
/-- What holds at the jump. -/
def JmpR (w : World) (s : ByteArray) (e : Int) (a : Act) (w' : World) : Prop := (∃ u1 u2 u3 u4 u5 u6 u7 u8 u9 u10 u12 u13 u14 u15 u16 u17 u18 u19 u20 u21 u22 u23 u24 u25 u26 u27 u28 u29 u30 u31 u32 u33 u34 u35 u36 u37 u38 u39 u40 u41 u42 u43 u44 u45 u46 : Value, a = { tmps := #[.string s, u1, u2, u3, u4, u5, u6, u7, u8, u9, u10, .int .i64 e, u12, u13, u14, u15, u16, u17, u18, u19, u20, u21, u22, u23, u24, u25, u26, u27, u28, u29, u30, u31, u32, u33, u34, u35, u36, u37, u38, u39, u40, u41, u42, u43, u44, u45, u46], defers := [] }) ∧ Below w.heap.size w w'
theorem jump_retH {l : Nat} {J : Act → World → Prop} {Q : Exit → Act → World → Prop} {a : Act} {w : World} : Exit.jump l J Q .ret a w = Q .ret a w := rfl
theorem jmpR_mk {w w' : World} {s : ByteArray} {e : Int} {u1 u2 u3 u4 u5 u6 u7 u8 u9 u10 u12 u13 u14 u15 u16 u17 u18 u19 u20 u21 u22 u23 u24 u25 u26 u27 u28 u29 u30 u31 u32 u33 u34 u35 u36 u37 u38 u39 u40 u41 u42 u43 u44 u45 u46 : Value} (hb : Below w.heap.size w w') : JmpR w s e { tmps := #[.string s, u1, u2, u3, u4, u5, u6, u7, u8, u9, u10, .int .i64 e, u12, u13, u14, u15, u16, u17, u18, u19, u20, u21, u22, u23, u24, u25, u26, u27, u28, u29, u30, u31, u32, u33, u34, u35, u36, u37, u38, u39, u40, u41, u42, u43, u44, u45, u46], defers := [] } w' := ⟨⟨_, _, _, _, _, _, _, _, _, _, _, _, _, _, _, _, _, _, _, _, _, _, _, _, _, _, _, _, _, _, _, _, _, _, _, _, _, _, _, _, _, _, _, _, _, rfl⟩, hb⟩

set_option maxRecDepth 100000 in
set_option maxHeartbeats 1000000 in
theorem Read_empty (w : World) : Calls Tryd.prog 13 #[.string ⟨#[]⟩] w fun o w' => o = .returned (.tuple #[.int .i64 0, .int .i64 0, .int .u64 0, .string ⟨#[]⟩, .int .i64 100]) ∧ Below w.heap.size w w' := by
    go_enter Tryd.func13, Tryd.ntmps13
    go_wp2
    refine wp_scope_jumps 0 (JmpR w ⟨#[]⟩ 100) (fun _ _ => 0) (by rfl) ?_ ?_
    · go_wp2
      refine wp_goto ?_
      exact ⟨rfl, jmpR_mk (below_al (Below.refl _ _) _)⟩
    · rintro a w' ⟨⟨u1, u2, u3, u4, u5, u6, u7, u8, u9, u10, u12, u13, u14, u15, u16, u17, u18, u19, u20, u21, u22, u23, u24, u25, u26, u27, u28, u29, u30, u31, u32, u33, u34, u35, u36, u37, u38, u39, u40, u41, u42, u43, u44, u45, u46, rfl⟩, hb⟩
      have HB := Lib.hid hb
      clear hb
      go_wp2
      rw [jump_retH]
      refine bodyPost_ret (v := .tuple #[.int .i64 0, .int .i64 0, .int .u64 0, .string ⟨#[]⟩, .int .i64 100]) (by simp [results, Tryd.results13, go_sem]) rfl ?_
      exact ⟨rfl, HB.out⟩

set_option maxRecDepth 100000 in
set_option maxHeartbeats 1000000 in
theorem Read_none (s : ByteArray) (c : Nat) (w : World) (h0 : 0 < s.size) (hc : (s[0]'h0).toNat = c) (hn : nby (c % 32) = none) (hT : SizT w) : Calls Tryd.prog 13 #[.string s] w fun o w' => o = .returned (.tuple #[.int .i64 0, .int .i64 0, .int .u64 0, .string s, .int .i64 101]) ∧ Below w.heap.size w w' := by
    have hne := not_emptyH h0
    have hc2 : c < 256 := by rw [← hc]; exact (s[0]'h0).toNat_lt
    obtain ⟨k, hk⟩ : ∃ k, k = c % 32 := ⟨_, rfl⟩
    have HP := Lib.hid (fun W => parts_calls c W hc2)
    have HO := Lib.hid (fun W h => told_calls k W (by omega) h)
    rw [← hk] at hn HP
    unfold toldV at HO
    rw [hn] at HO
    have HT := Lib.hid hT
    obtain ⟨j, hj⟩ : ∃ j, j = c / 32 := ⟨_, rfl⟩
    rw [← hj] at HP
    clear hT hk hj hn hc2
    go_enter Tryd.func13, Tryd.ntmps13
    go_wp2
    refine wp_scope_jumps 0 (JmpR w s 101) (fun _ _ => 0) (by rfl) ?_ ?_
    · go_wp2_with (first
        | (go_at_call 25; refine (HP.out _).mono ?_; rintro o w1 ⟨rfl, rfl⟩)
        | (go_at_call 26; refine (HO.out _ (HT.out.below (below_al (Below.refl _ _) _))).mono ?_; rintro o w2 ⟨rfl, hb2⟩; have hA := (At.new w _ _).below hb2; have g0 := hA.c 0 rfl; have g1 := hA.c 1 rfl; have f0 := hA.f 0; have f1 := hA.f 1; have z4 := hA.lt; have HB2 := Lib.hid (Below.trans (below_al (Below.refl _ _) _) (hb2.mono (by simp))); clear hb2 hA))
      refine wp_goto ?_
      exact ⟨rfl, jmpR_mk (below2 HB2.out (by omega) _ _)⟩
    · rintro a w' ⟨⟨u1, u2, u3, u4, u5, u6, u7, u8, u9, u10, u12, u13, u14, u15, u16, u17, u18, u19, u20, u21, u22, u23, u24, u25, u26, u27, u28, u29, u30, u31, u32, u33, u34, u35, u36, u37, u38, u39, u40, u41, u42, u43, u44, u45, u46, rfl⟩, hb⟩
      have HB := Lib.hid hb
      clear hb
      go_wp2
      rw [jump_retH]
      refine bodyPost_ret (v := .tuple #[.int .i64 0, .int .i64 0, .int .u64 0, .string s, .int .i64 101]) (by simp [results, Tryd.results13, go_sem]) rfl ?_
      exact ⟨rfl, HB.out⟩

set_option maxRecDepth 100000 in
set_option maxHeartbeats 1000000 in
theorem Read_short (s : ByteArray) (c n : Nat) (w : World) (h0 : 0 < s.size) (hc : (s[0]'h0).toNat = c) (hn : nby (c % 32) = some n) (hs : s.size < 1 + n) (hT : SizT w) : Calls Tryd.prog 13 #[.string s] w fun o w' => o = .returned (.tuple #[.int .i64 0, .int .i64 0, .int .u64 0, .string s, .int .i64 100]) ∧ Below w.heap.size w w' := by
    have hne := not_emptyH h0
    have hc2 : c < 256 := by rw [← hc]; exact (s[0]'h0).toNat_lt
    have hn8 := nby_le hn
    obtain ⟨k, hk⟩ : ∃ k, k = c % 32 := ⟨_, rfl⟩
    have HP := Lib.hid (fun W => parts_calls c W hc2)
    have HO := Lib.hid (fun W h => told_calls k W (by omega) h)
    rw [← hk] at hn HP
    unfold toldV at HO
    rw [hn] at HO
    have HT := Lib.hid hT
    obtain ⟨j, hj⟩ : ∃ j, j = c / 32 := ⟨_, rfl⟩
    rw [← hj] at HP
    have hlt : decide ((s.size : Int) < 1 + (n : Int)) = true := by simp; omega
    clear hT hk hj hn hc2 hs
    go_enter Tryd.func13, Tryd.ntmps13
    go_wp2
    refine wp_scope_jumps 0 (JmpR w s 100) (fun _ _ => 0) (by rfl) ?_ ?_
    · go_wp2_with (first
        | (go_at_call 25; refine (HP.out _).mono ?_; rintro o w1 ⟨rfl, rfl⟩)
        | (go_at_call 26; refine (HO.out _ (HT.out.below (below_al (Below.refl _ _) _))).mono ?_; rintro o w2 ⟨rfl, hb2⟩; have hA := (At.new w #[.int .i64 0, .int .i64 0] 41).below hb2; have HA := Lib.hid (show At _ _ #[.int .i64 0, .int .i64 0] 41 from hA); have g0 := hA.c 0 rfl; have g1 := hA.c 1 rfl; have f0 := hA.f 0; have f1 := hA.f 1; have z4 := hA.lt; have HB2 := Lib.hid (Below.trans (below_al (Below.refl _ _) _) (hb2.mono (by simp))); clear hb2 hA)
        | (go_at_call 27; refine (whole_calls _ _ _ (by omega)).mono ?_; rintro o w3 ⟨rfl, hb3⟩))
      refine wp_goto ?_
      exact ⟨rfl, jmpR_mk ((below2 HB2.out (by omega) _ _).trans (hb3.mono (by have := HB2.out.size; simp only [World.size_setCell]; omega)))⟩
    · rintro a w' ⟨⟨u1, u2, u3, u4, u5, u6, u7, u8, u9, u10, u12, u13, u14, u15, u16, u17, u18, u19, u20, u21, u22, u23, u24, u25, u26, u27, u28, u29, u30, u31, u32, u33, u34, u35, u36, u37, u38, u39, u40, u41, u42, u43, u44, u45, u46, rfl⟩, hb⟩
      have HB := Lib.hid hb
      clear hb
      go_wp2
      rw [jump_retH]
      refine bodyPost_ret (v := .tuple #[.int .i64 0, .int .i64 0, .int .u64 0, .string s, .int .i64 100]) (by simp [results, Tryd.results13, go_sem]) rfl ?_
      exact ⟨rfl, HB.out⟩

set_option maxRecDepth 100000 in
set_option maxHeartbeats 1000000 in
theorem Read_yes (s : ByteArray) (c n : Nat) (w : World) (h0 : 0 < s.size) (hc : (s[0]'h0).toNat = c) (hn : nby (c % 32) = some n) (hs : 1 + n ≤ s.size) (hT : SizT w) : Calls Tryd.prog 13 #[.string s] w fun o w' => o = .returned (.tuple #[.int .i64 ((c / 32 : Nat) : Int), .int .i64 ((c % 32 : Nat) : Int), .int .u64 (argV (c % 32) (s.extract 1 (1 + n)).data.toList : Int), .string (s.extract (1 + n) s.size), .int .i64 0]) ∧ Below w.heap.size w w' := by
    have hne := not_emptyH h0
    have hc2 : c < 256 := by rw [← hc]; exact (s[0]'h0).toNat_lt
    have hn8 := nby_le hn
    obtain ⟨k, hk⟩ : ∃ k, k = c % 32 := ⟨_, rfl⟩
    have HP := Lib.hid (fun W => parts_calls c W hc2)
    have HO := Lib.hid (fun W h => told_calls k W (by omega) h)
    rw [← hk] at hn HP
    unfold toldV at HO
    rw [hn] at HO
    have HT := Lib.hid hT
    obtain ⟨j, hj⟩ : ∃ j, j = c / 32 := ⟨_, rfl⟩
    rw [← hj] at HP
    have hlt : decide ((s.size : Int) < 1 + (n : Int)) = false := by simp; omega
    rw [← hk, ← hj]
    obtain ⟨P, hP⟩ : ∃ P, P = s.extract 1 (1 + n) := ⟨_, rfl⟩
    obtain ⟨R, hR⟩ : ∃ R, R = s.extract (1 + n) s.size := ⟨_, rfl⟩
    have hsl1 : ∀ W : World, (Instr.slice 9 (.string s) (some (.int .i64 1)) (some (.int .i64 (1 + (n : Int)))) none).run Tryd.prog W = .ok (.string P) W := fun W => by
      rw [run_slice_string (P := Tryd.prog) W 9 s .i64 .i64 1 (1 + (n : Int)) Tryd.underlying9 (by omega) (by omega) (by omega), hP]
      congr 3
    have hsl2 : ∀ W : World, (Instr.slice 9 (.string s) (some (.int .i64 (1 + (n : Int)))) none none).run Tryd.prog W = .ok (.string R) W := fun W => by
      rw [run_slice_string_from_if (P := Tryd.prog) W 9 s .i64 (1 + (n : Int)) Tryd.underlying9, if_pos ⟨by omega, by omega⟩, hR]
      congr 3
    have hPn : P.size = n := by rw [hP, ByteArray.size_extract]; omega
    rw [← hP, ← hR]
    have HPn := Lib.hid hPn
    clear hT hk hj hn hc2 hP hR hPn
    go_enter Tryd.func13, Tryd.ntmps13
    go_wp2
    refine wp_scope_jumps 0 (fun _ _ => False) (fun _ _ => 0) (by rfl) ?_ ?_
    · go_wp2_with (first
        | (go_at_call 25; refine (HP.out _).mono ?_; rintro o w1 ⟨rfl, rfl⟩)
        | (go_at_call 26; refine (HO.out _ (HT.out.below (below_al (Below.refl _ _) _))).mono ?_; rintro o w2 ⟨rfl, hb2⟩; have hA := (At.new w #[.int .i64 0, .int .i64 0] 41).below hb2; have HA := Lib.hid (show At _ _ #[.int .i64 0, .int .i64 0] 41 from hA); have g0 := hA.c 0 rfl; have g1 := hA.c 1 rfl; have f0 := hA.f 0; have f1 := hA.f 1; have z4 := hA.lt; have HB2 := Lib.hid (Below.trans (below_al (Below.refl _ _) _) (hb2.mono (by simp))); clear hb2 hA)
        | (go_at_call 27; refine (whole_calls _ _ _ (by omega)).mono ?_; rintro o w3 ⟨rfl, hb3⟩))
      have HZ := Lib.hid ((HA.out.set2 (.int .i64 (k : Int)) (.int .i64 (n : Int))).below hb3)
      have HB3 := Lib.hid ((below2 HB2.out (Nat.le_refl _) (.int .i64 (k : Int)) (.int .i64 (n : Int))).trans (hb3.mono (by have := HB2.out.size; simp only [World.size_setCell]; omega)))
      clear hb3 HA HB2 g0 g1 f0 f1 z4
      obtain ⟨Z, hZ⟩ : ∃ Z, Z = w.heap.size := ⟨_, rfl⟩
      rw [← hZ] at HZ ⊢
      have HZe := Lib.hid hZ
      clear hZ
      refine wp_region_held_drew (S := fun w' => w'.cell? ⟨Z, 0, none⟩ = some (.int .i64 (k : Int)) ∧ w'.cell? ⟨Z, 1, none⟩ = some (.int .i64 (n : Int))) hmxH ⟨(show At (World.drew _) _ _ _ from HZ.out).c 0 rfl, (show At (World.drew _) _ _ _ from HZ.out).c 1 rfl⟩ ?_
      have HZ1 := Lib.hid (show At w3.drew _ _ _ from HZ.out)
      have HB4 := Lib.hid HB3.out.drew
      clear HZ HB3
      obtain ⟨W1, hW1⟩ : ∃ W1, W1 = w3.drew := ⟨_, rfl⟩
      rw [← hW1] at HZ1 HB4 ⊢
      clear hW1
      intro hHeld
      refine wpAnyH_take (i := 0) (v := .int .i64 (j : Int)) rfl (by kernel_rfl) (by kernel_rfl) (by kernel_rfl) (fun _ _ _ h => h) (Or.inl ⟨by rfl, by rintro w ⟨h1, h2⟩; go_simp⟩) hHeld ?_
      refine wpAnyH_take (i := 1) (v := .int .i64 (k : Int)) rfl (by kernel_rfl) (by kernel_rfl) (by kernel_rfl) (fun _ _ _ h => h) (Or.inl ⟨by rfl, by rintro w ⟨h1, h2⟩; go_simp⟩) hHeld ?_
      refine wpAnyH_take (i := 2) (v := .agg #[.int .i64 (k : Int), .int .i64 (n : Int)]) rfl (by kernel_rfl) (by kernel_rfl) (by kernel_rfl) (fun _ _ _ h => h) (Or.inl ⟨by rfl, by rintro w ⟨h1, h2⟩; go_simp⟩) hHeld ?_
      refine wpAnyH_take (i := 3) (v := .string s) rfl (by kernel_rfl) (by kernel_rfl) (by kernel_rfl) (fun _ _ _ h => h) (Or.inl ⟨by rfl, by rintro w ⟨h1, h2⟩; go_simp⟩) hHeld ?_
      refine wpAnyH_take (i := 4) (v := .agg #[.int .i64 (k : Int), .int .i64 (n : Int)]) rfl (by kernel_rfl) (by kernel_rfl) (by kernel_rfl) (fun _ _ _ h => h) (Or.inl ⟨by rfl, by rintro w ⟨h1, h2⟩; go_simp⟩) hHeld ?_
      refine wpAnyH_take (i := 9) (v := .string s) rfl (by kernel_rfl) (by kernel_rfl) (by kernel_rfl) (fun _ _ _ h => h) (Or.inl ⟨by rfl, by rintro w ⟨h1, h2⟩; go_simp⟩) hHeld ?_
      refine wpAnyH_take (i := 10) (v := .agg #[.int .i64 (k : Int), .int .i64 (n : Int)]) rfl (by kernel_rfl) (by kernel_rfl) (by kernel_rfl) (fun _ _ _ h => h) (Or.inl ⟨by rfl, by rintro w ⟨h1, h2⟩; go_simp⟩) hHeld ?_
      refine wpAnyH_ready (rs := [5]) (by kernel_rfl) (by simp) ?_
      refine AllReadyH.cons rfl (fun K hK => ?_) AllReadyH.nil
      go_simp
      refine (whole_calls _ _ _ (by omega)).mono ?_
      rintro o w4 ⟨rfl, hb4⟩
      have HZ2 := Lib.hid (HZ1.out.below hb4)
      have HB5 := Lib.hid (HB4.out.trans (hb4.mono HB4.out.size))
      clear hb4 HZ1 HB4
      refine hK.out _ _ ⟨HZ2.out.c 0 rfl, HZ2.out.c 1 rfl⟩ (fun hHeld => ?_)
      clear hK K
      refine wpAnyH_ready (rs := [6]) (by kernel_rfl) (by simp) ?_
      refine AllReadyH.cons rfl (fun K hK => ?_) AllReadyH.nil
      go_simp
      refine hK.out _ _ hHeld (fun hHeld => ?_)
      clear hK K
      refine wpAnyH_ready (rs := [7]) (by kernel_rfl) (by simp) ?_
      refine AllReadyH.cons rfl (fun K hK => ?_) AllReadyH.nil
      go_simp
      have HG := Lib.hid (Lib.bytesWorld_size w4 5 P)
      have HCl := Lib.hid (fun j h => Lib.bytesWorld_cell w4 5 P j h)
      have HZ3 := Lib.hid (HZ2.out.below (Joins.below_bytesWorld w4.heap.size w4 5 P (Nat.le_refl _)))
      have HB6 := Lib.hid (HB5.out.trans (Joins.below_bytesWorld w.heap.size w4 5 P HB5.out.size))
      have hcvP := Lib.run_convert_string_bytes (P := Tryd.prog) w4 9 38 5 P Tryd.underlying9 Tryd.underlying38 Tryd.underlying5
      obtain ⟨g, hg⟩ : ∃ g, g = w4.heap.size := ⟨_, rfl⟩
      obtain ⟨cap, hcap⟩ : ∃ cap, cap = grownCap w4 P.size 0 5 := ⟨_, rfl⟩
      obtain ⟨W5, hW5⟩ : ∃ W5, W5 = Lib.bytesWorld w4 5 P := ⟨_, rfl⟩
      rw [← hg, ← hcap, ← hW5, HPn.out] at hcvP
      rw [← hg, ← hW5] at HG HCl
      rw [← hW5] at HZ3 HB6
      clear hg hcap hW5
      go_simp
      refine hK.out _ _ ⟨HZ3.out.c 0 rfl, HZ3.out.c 1 rfl⟩ (fun hHeld => ?_)
      clear hK K hcvP HZ2 HB5
      refine wpAnyH_ready (rs := [8]) (by kernel_rfl) (by simp) ?_
      refine AllReadyH.cons rfl (fun K hK => ?_) AllReadyH.nil
      go_simp
      have hArg := argument_calls k (n : Int) g cap P.data.toList W5 (by rw [size_data, HPn.out]; exact hn8) (by rw [HG.out]; omega) (fun j hj => HCl.out j (by rw [size_data] at hj; exact hj))
      rw [size_data, HPn.out] at hArg
      refine hArg.mono ?_
      clear hArg
      rintro o w6 ⟨rfl, hb6⟩
      have HZ4 := Lib.hid (HZ3.out.below hb6)
      have HB7 := Lib.hid (HB6.out.trans (hb6.mono HB6.out.size))
      clear hb6 HZ3 HB6 HG HCl
      refine hK.out _ _ ⟨HZ4.out.c 0 rfl, HZ4.out.c 1 rfl⟩ (fun hHeld => ?_)
      clear hK K
      refine wpAnyH_ready (rs := [11]) (by kernel_rfl) (by simp) ?_
      refine AllReadyH.cons rfl (fun K hK => ?_) AllReadyH.nil
      go_simp
      refine (whole_calls _ _ _ (by omega)).mono ?_
      rintro o w7 ⟨rfl, hb7⟩
      have HZ5 := Lib.hid (HZ4.out.below hb7)
      have HB8 := Lib.hid (HB7.out.trans (hb7.mono HB7.out.size))
      clear hb7 HZ4 HB7
      refine hK.out _ _ ⟨HZ5.out.c 0 rfl, HZ5.out.c 1 rfl⟩ (fun hHeld => ?_)
      clear hK K
      refine wpAnyH_take (i := 12) (v := .string R) rfl (by kernel_rfl) (by kernel_rfl) (by kernel_rfl) (fun _ _ _ h => h) (Or.inl ⟨by rfl, by rintro w ⟨h1, h2⟩; go_simp⟩) hHeld ?_
      refine wpAnyH_take (i := 13) (v := .int .i64 (j : Int)) rfl (by kernel_rfl) (by kernel_rfl) (by kernel_rfl) (fun _ _ _ h => h) (Or.inl ⟨by rfl, by rintro w ⟨h1, h2⟩; go_simp⟩) hHeld ?_
      refine wpAnyH_take (i := 14) (v := .int .i64 (k : Int)) rfl (by kernel_rfl) (by kernel_rfl) (by kernel_rfl) (fun _ _ _ h => h) (Or.inl ⟨by rfl, by rintro w ⟨h1, h2⟩; go_simp⟩) hHeld ?_
      refine wpAnyH_take (i := 15) (v := .int .u64 (argV k P.data.toList : Int)) rfl (by kernel_rfl) (by kernel_rfl) (by kernel_rfl) (fun _ _ _ h => h) (Or.inl ⟨by rfl, by rintro w ⟨h1, h2⟩; go_simp⟩) hHeld ?_
      refine wpAnyH_take (i := 16) (v := .string R) rfl (by kernel_rfl) (by kernel_rfl) (by kernel_rfl) (fun _ _ _ h => h) (Or.inl ⟨by rfl, by rintro w ⟨h1, h2⟩; go_simp⟩) hHeld ?_
      refine wpAnyH_take (i := 17) (v := .int .i64 0) rfl (by kernel_rfl) (by kernel_rfl) (by kernel_rfl) (fun _ _ _ h => h) (Or.inl ⟨by rfl, by rintro w ⟨h1, h2⟩; go_simp⟩) hHeld ?_
      refine wpAnyH_done (by kernel_rfl) ?_ _
      clear hHeld
      go_wp2
      rw [jump_retH]
      refine bodyPost_ret (v := .tuple #[.int .i64 (j : Int), .int .i64 (k : Int), .int .u64 (argV k P.data.toList : Int), .string R, .int .i64 0]) (by simp [results, Tryd.results13, go_sem, Act.put]) rfl ?_
      exact ⟨rfl, HB8.out⟩
    · rintro a w' h
      exact h.elim
theorem Read_calls (s : ByteArray) (w : World) (hT : SizT w) : Calls Tryd.prog 13 #[.string s] w fun o w' => o = .returned (rdV (readT s)) ∧ Below w.heap.size w w' := by
  by_cases h0 : s.size = 0
  · have e : readT s = (0, 0, 0, s, 100) := by rw [readT, if_pos h0]
    have es : s = ⟨#[]⟩ := str_inj (List.eq_nil_of_length_eq_zero (by rw [size_data]; exact h0))
    rw [e, es]
    exact Read_empty w
  · have h1 : 0 < s.size := by omega
    have hb : (s[0]'h1).toNat = (byteAt s 0).toNat := by rw [byteAt_eq s 0 h1]
    cases hn : nby ((byteAt s 0).toNat % 32) with
    | none =>
      have e : readT s = (0, 0, 0, s, 101) := by rw [readT, if_neg h0, hn]
      rw [e]
      exact Read_none s _ w h1 hb hn hT
    | some n =>
      by_cases h2 : s.size < 1 + n
      · have e : readT s = (0, 0, 0, s, 100) := by rw [readT, if_neg h0, hn]; exact if_pos h2
        rw [e]
        exact Read_short s _ n w h1 hb hn h2 hT
      · have e : readT s = ((byteAt s 0).toNat / 32, (byteAt s 0).toNat % 32, argV ((byteAt s 0).toNat % 32) (s.extract 1 (1 + n)).data.toList, s.extract (1 + n) s.size, 0) := by rw [readT, if_neg h0, hn]; exact if_neg h2
        rw [e]
        exact Read_yes s _ n w h1 hb hn (by omega) hT
end Go.Proofs.YtgaaiiacdeejfaaDoor
