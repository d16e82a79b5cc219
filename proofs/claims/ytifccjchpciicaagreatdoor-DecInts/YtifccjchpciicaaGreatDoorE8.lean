/- The walks of readFraction, readPower, number, short, digits. -/
import Derived.Test.YtifccjchpciicaaGreatDoorE7
namespace Go.Proofs.YtifccjchpciicaaGreatDoor
open Go.RowKit
open Go.Lib (decDigits nDigits)

section
variable {B C : Nat} {s : ByteArray} {n : Bool} {wh fr : ByteArray} {le : Bool} {po : ByteArray} {w : World} {c d : Nat}
theorem cmp_nat (a c : Nat) : decide ((a : Int) = (c : Int)) = decide (a = c) := by
  by_cases h : a = c
  · simp [h]
  · rw [show decide (a = c) = false from by simpa using h]; simp; omega
theorem sgn1_no (h : RdAt w B s n wh fr le po) (hC : w.cell? ⟨C, 0, none⟩ = some (.int .i32 (c : Int))) (hn : s.size = 0 ∨ (byteAt s 0).toNat ≠ c) :
    Calls Tryz.prog 47 #[.pointer (some ⟨B, 0, none⟩), .slice (some ⟨C, 0, none⟩) 1 1] w fun o w' => o = .returned (.int .i32 0) ∧ w' = w := by
  rcases Nat.eq_zero_or_pos s.size with h0 | h0
  · obtain rfl : s = ⟨#[]⟩ := str_inj (nil_of h0)
    exact sign_none B _ w h.c0
  · have hn : (byteAt s 0).toNat ≠ c := by rcases hn with h | h; omega; exact h
    refine sign_no B s _ w h.c0 h0 ?_
    have := con1 C c ((byteAt s 0).toNat : Int) w hC
    rwa [cmp_nat, show decide ((byteAt s 0).toNat = c) = false from by simpa using hn] at this
theorem sgn1_yes (h : RdAt w B s n wh fr le po) (hC : w.cell? ⟨C, 0, none⟩ = some (.int .i32 (c : Int))) (h0 : 0 < s.size) (hn : (byteAt s 0).toNat = c) :
    Calls Tryz.prog 47 #[.pointer (some ⟨B, 0, none⟩), .slice (some ⟨C, 0, none⟩) 1 1] w fun o w' => o = .returned (.int .i32 (c : Int)) ∧ RdAt w' B (s.extract 1 s.size) n wh fr le po ∧ Kb B w w' := by
  have := con1 C c ((byteAt s 0).toNat : Int) w hC
  rw [cmp_nat, show decide ((byteAt s 0).toNat = c) = true from by simpa using hn] at this
  refine (sign_yes B s _ w h.c0 (h.f 0) h0 this).mono ?_
  rintro o w' ⟨rfl, rfl⟩
  exact ⟨by rw [hn], h.s0 _, (Kb.refl B w).setCell 0 _⟩
theorem sgn2_no (h : RdAt w B s n wh fr le po) (hC : w.cell? ⟨C, 0, none⟩ = some (.int .i32 (c : Int))) (hD : w.cell? ⟨C, 1, none⟩ = some (.int .i32 (d : Int))) (hn : s.size = 0 ∨ ((byteAt s 0).toNat ≠ c ∧ (byteAt s 0).toNat ≠ d)) :
    Calls Tryz.prog 47 #[.pointer (some ⟨B, 0, none⟩), .slice (some ⟨C, 0, none⟩) 2 2] w fun o w' => o = .returned (.int .i32 0) ∧ w' = w := by
  rcases Nat.eq_zero_or_pos s.size with h0 | h0
  · obtain rfl : s = ⟨#[]⟩ := str_inj (nil_of h0)
    exact sign_none B _ w h.c0
  · have hn : (byteAt s 0).toNat ≠ c ∧ (byteAt s 0).toNat ≠ d := by rcases hn with h | h; omega; exact h
    refine sign_no B s _ w h.c0 h0 ?_
    have := con2 C c d ((byteAt s 0).toNat : Int) w hC hD
    rwa [cmp_nat, cmp_nat, show decide ((byteAt s 0).toNat = c) = false from by simpa using hn.1, show decide ((byteAt s 0).toNat = d) = false from by simpa using hn.2] at this
theorem sgn2_yes (h : RdAt w B s n wh fr le po) (hC : w.cell? ⟨C, 0, none⟩ = some (.int .i32 (c : Int))) (hD : w.cell? ⟨C, 1, none⟩ = some (.int .i32 (d : Int))) (h0 : 0 < s.size) (hn : (byteAt s 0).toNat = c ∨ (byteAt s 0).toNat = d) :
    Calls Tryz.prog 47 #[.pointer (some ⟨B, 0, none⟩), .slice (some ⟨C, 0, none⟩) 2 2] w fun o w' => o = .returned (.int .i32 ((byteAt s 0).toNat : Int)) ∧ RdAt w' B (s.extract 1 s.size) n wh fr le po ∧ Kb B w w' := by
  have := con2 C c d ((byteAt s 0).toNat : Int) w hC hD
  rw [cmp_nat, cmp_nat, show (decide ((byteAt s 0).toNat = c) || decide ((byteAt s 0).toNat = d)) = true from by simpa using hn] at this
  refine (sign_yes B s _ w h.c0 (h.f 0) h0 this).mono ?_
  rintro o w' ⟨rfl, rfl⟩
  exact ⟨rfl, h.s0 _, (Kb.refl B w).setCell 0 _⟩
end

theorem cell_new1 (w : World) (v : Value) (T : TypeId) : (w.alloc (.cells #[v] T)).cell? ⟨w.heap.size, 0, none⟩ = some v := one_cell (heap_alloc_new w _)
theorem two_cell {W : World} {B : Nat} {u v : Value} {T : TypeId} (h : W.heap[B]? = some (.cells #[u, v] T (0, 0))) : W.cell? ⟨B, 0, none⟩ = some u ∧ W.cell? ⟨B, 1, none⟩ = some v := by
  exact ⟨by simp [World.cell?, h], by simp [World.cell?, h]⟩

/-- The point is not there. -/
theorem no46 {s : ByteArray} (h : s.data.toList.head? ≠ some 46) : s.size = 0 ∨ (byteAt s 0).toNat ≠ 46 := by
  rcases Nat.eq_zero_or_pos s.size with h0 | h0
  · exact .inl h0
  · refine .inr fun e => h ?_
    rw [head_byte h0, Option.some.injEq]
    exact UInt8.toNat_inj.1 e

set_option maxRecDepth 100000 in
set_option maxHeartbeats 1000000 in
theorem fraction_none (B : Nat) (s : ByteArray) (n : Bool) (wh : ByteArray) (le : Bool) (po : ByteArray) (w : World) (h : RdAt w B s n wh ⟨#[]⟩ le po) (hd : s.size = 0 ∨ (byteAt s 0).toNat ≠ 46) :
    Calls Tryz.prog 50 #[.pointer (some ⟨B, 0, none⟩)] w fun o w' => (∃ v, o = .returned v) ∧ RdAt w' B s n wh ⟨#[]⟩ le po ∧ Kb B w w' := by
  have HR := Lib.hid h
  have c0 := h.c0
  have hl := h.lt
  have HR1 := Lib.hid ((h.alloc (.cells #[.string s] 47)).alloc (.cells #[.int .i32 46] 21))
  have HK1 := Lib.hid (((Kb.refl B w).alloc (.cells #[.string s] 47)).alloc (.cells #[.int .i32 46] 21))
  have a0 : ((w.alloc (.cells #[.string s] 47)).alloc (.cells #[.int .i32 46] 21)).cell? ⟨w.heap.size, 0, none⟩ = some (.string s) :=
    one_cell ((Below.heap_alloc _ _ _ (by simp)).trans (heap_alloc_new w _))
  have HC : Hid (((w.alloc (.cells #[.string s] 47)).alloc (.cells #[.int .i32 46] 21)).cell? ⟨w.heap.size + 1, 0, none⟩ = some (.int .i32 ((46 : Nat) : Int))) := Lib.hid (by
    have := cell_new1 (w.alloc (.cells #[.string s] 47)) (.int .i32 46) 21
    rwa [World.size_alloc] at this)
  obtain ⟨W1, hW1⟩ : ∃ W1, W1 = (w.alloc (.cells #[.string s] 47)).alloc (.cells #[.int .i32 46] 21) := ⟨_, rfl⟩
  rw [← hW1] at HR1 HK1 HC a0
  have HS := Lib.hid (sgn1_no HR1.out HC.out hd)
  have k3 := HR1.out.c3
  have k0 := HR1.out.c0
  have kf := HR1.out.f 0
  clear h hd
  go_enter Tryz.func50, Tryz.ntmps50
  go_wp2_with fail
  rw [← hW1]
  clear hW1
  refine HS.out.mono ?_
  rintro o w2 ⟨rfl, rfl⟩
  go_wp2
  go_end0
  exact ⟨⟨_, rfl⟩, HR1.out.s0 _, HK1.out.setCell 0 _⟩

theorem run_is (B : Nat) (s F R : ByteArray) (n : Bool) (wh fr : ByteArray) (le : Bool) (po : ByteArray) (hF : F = s.extract 0 (ndig s.data.toList)) (hR : R = s.extract (ndig s.data.toList) s.size) (w : World) (h : RdAt w B s n wh fr le po) :
    Calls Tryz.prog 48 #[.pointer (some ⟨B, 0, none⟩), .func (.func 95) #[] #[]] w fun o w' => o = .returned (.string F) ∧ RdAt w' B R n wh fr le po ∧ Kb B w w' := by
  rw [hF, hR]; exact run_any B s n wh fr le po w h

set_option maxRecDepth 100000 in
set_option maxHeartbeats 1000000 in
theorem fraction_point (B : Nat) (s F R : ByteArray) (n : Bool) (wh : ByteArray) (le : Bool) (po : ByteArray) (w : World) (h : RdAt w B s n wh ⟨#[]⟩ le po) (h0 : 0 < s.size) (hd : (byteAt s 0).toNat = 46)
    (hF : F = (s.extract 1 s.size).extract 0 (ndig (s.extract 1 s.size).data.toList)) (hR : R = (s.extract 1 s.size).extract (ndig (s.extract 1 s.size).data.toList) (s.extract 1 s.size).size) :
    Calls Tryz.prog 50 #[.pointer (some ⟨B, 0, none⟩)] w fun o w' => (∃ v, o = .returned v) ∧ RdAt w' B (if F.data.toList = [] then s else R) n wh F le po ∧ Kb B w w' := by
  have HRun := Lib.hid (fun w => run_is B (s.extract 1 s.size) F R n wh ⟨#[]⟩ le po hF hR w)
  have c0 := h.c0
  have hl := h.lt
  have HR1 := Lib.hid ((h.alloc (.cells #[.string s] 47)).alloc (.cells #[.int .i32 46] 21))
  have HK1 := Lib.hid (((Kb.refl B w).alloc (.cells #[.string s] 47)).alloc (.cells #[.int .i32 46] 21))
  have HA1 : Hid (((w.alloc (.cells #[.string s] 47)).alloc (.cells #[.int .i32 46] 21)).heap[w.heap.size]? = some (.cells #[.string s] 47 (0, 0))) := Lib.hid ((Below.heap_alloc _ _ _ (by simp)).trans (heap_alloc_new w _))
  have HC : Hid (((w.alloc (.cells #[.string s] 47)).alloc (.cells #[.int .i32 46] 21)).cell? ⟨w.heap.size + 1, 0, none⟩ = some (.int .i32 ((46 : Nat) : Int))) := Lib.hid (by
    have := cell_new1 (w.alloc (.cells #[.string s] 47)) (.int .i32 46) 21
    rwa [World.size_alloc] at this)
  obtain ⟨W1, hW1⟩ : ∃ W1, W1 = (w.alloc (.cells #[.string s] 47)).alloc (.cells #[.int .i32 46] 21) := ⟨_, rfl⟩
  rw [← hW1] at HR1 HK1 HC HA1
  have HS := Lib.hid (sgn1_yes HR1.out HC.out h0 hd)
  clear h h0 hd hF hR
  go_enter Tryz.func50, Tryz.ntmps50
  go_wp2_with fail
  rw [← hW1]
  clear hW1
  refine HS.out.mono ?_
  rintro o w2 ⟨rfl, hr2, hk2⟩
  have HR2 := Lib.hid (show RdAt w2.drew B _ _ _ _ _ _ from hr2)
  have HK2 := Lib.hid ((HK1.out.trans hk2).drew)
  have HA2 := Lib.hid (show w2.drew.heap[w.heap.size]? = _ from (hk2.block _ (Array.getElem?_eq_some_iff.1 HA1.out).1 (by omega)).trans HA1.out)
  clear hr2 hk2
  go_wp2_with fail
  go_region_held3 (fun _ => True) (trivial)
    (first
      | (go_at_call 72; refine (anyDigit_calls _).mono ?_; rintro o w3 ⟨rfl, rfl⟩)
      | (go_at_call 48; refine (HRun.out _ HR2.out).mono ?_; rintro o w3 ⟨rfl, hr3, hk3⟩; have k3 := hr3.c3; have kf3 := hr3.f 3))
  have HR4 := Lib.hid (hr3.s3 F)
  have HK4 := Lib.hid ((HK2.out.trans hk3).setCell 3 (.string F))
  have HA4 : Hid ((w3.setCell ⟨B, 3, none⟩ (.string F)).heap[w.heap.size]? = some (.cells #[.string s] 47 (0, 0))) := Lib.hid ((heap_setCell_other _ ⟨B, 3, none⟩ _ _ (by show _ ≠ B; omega)).trans ((hk3.block _ (Array.getElem?_eq_some_iff.1 HA2.out).1 (by omega)).trans HA2.out))
  obtain ⟨W4, hW4⟩ : ∃ W4, W4 = w3.setCell ⟨B, 3, none⟩ (.string F) := ⟨_, rfl⟩
  rw [← hW4] at HR4 HK4 HA4 ⊢
  clear hW4 hr3 hk3 k3 kf3 c0
  have d3 := HR4.out.c3
  have d0 := HR4.out.c0
  have df := HR4.out.f 0
  have a0 := one_cell HA4.out
  by_cases hE : F.data.toList = []
  · obtain rfl : F = ⟨#[]⟩ := str_inj hE
    have HE := Lib.hid hE
    clear hE
    go_wp2
    go_end0
    exact ⟨⟨_, rfl⟩, by first | exact HR4.out.s0 _ | (rw [if_pos HE.out]; exact HR4.out.s0 _), HK4.out.setCell 0 _⟩
  · have hne := ne_toList hE
    have hne2 : (F.toList == []) = false := beq_eq_false_iff_ne.2 hne
    have hne3 : F.toList.isEmpty = false := by simpa using hne
    have HE := Lib.hid hE
    clear hE
    go_wp2
    go_end0
    exact ⟨⟨_, rfl⟩, by first | exact HR4.out | (rw [if_neg HE.out]; exact HR4.out), HK4.out⟩
end Go.Proofs.YtifccjchpciicaaGreatDoor
