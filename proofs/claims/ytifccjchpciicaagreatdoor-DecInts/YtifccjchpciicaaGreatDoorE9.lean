/- The walk of readPower. -/
import Derived.Test.YtifccjchpciicaaGreatDoorE8
namespace Go.Proofs.YtifccjchpciicaaGreatDoor
open Go.RowKit
open Go.Lib (decDigits nDigits)

def two32 (a b : Int) : Obj := .cells #[.int .i32 a, .int .i32 b] 21
set_option maxRecDepth 100000 in
set_option maxHeartbeats 1000000 in
theorem power_none (B : Nat) (s : ByteArray) (n : Bool) (wh fr : ByteArray) (le : Bool) (w : World) (h : RdAt w B s n wh fr le ⟨#[]⟩) (hd : s.size = 0 ∨ ((byteAt s 0).toNat ≠ 101 ∧ (byteAt s 0).toNat ≠ 69)) :
    Calls Tryz.prog 51 #[.pointer (some ⟨B, 0, none⟩)] w fun o w' => (∃ v, o = .returned v) ∧ RdAt w' B s n wh fr le ⟨#[]⟩ ∧ Kb B w w' := by
  have c0 := h.c0
  have hl := h.lt
  have HR1 := Lib.hid ((h.alloc (.cells #[.string s] 47)).alloc (.cells #[.int .i32 101, .int .i32 69] 21))
  have HK1 := Lib.hid (((Kb.refl B w).alloc (.cells #[.string s] 47)).alloc (.cells #[.int .i32 101, .int .i32 69] 21))
  have a0 : ((w.alloc (.cells #[.string s] 47)).alloc (.cells #[.int .i32 101, .int .i32 69] 21)).cell? ⟨w.heap.size, 0, none⟩ = some (.string s) :=
    one_cell ((Below.heap_alloc _ _ _ (by simp)).trans (heap_alloc_new w _))
  have HC : Hid (((w.alloc (.cells #[.string s] 47)).alloc (.cells #[.int .i32 101, .int .i32 69] 21)).heap[w.heap.size + 1]? = some (.cells #[.int .i32 101, .int .i32 69] 21 (0, 0))) := Lib.hid (by
    have := heap_alloc_new (w.alloc (.cells #[.string s] 47)) (.cells #[.int .i32 101, .int .i32 69] 21)
    rwa [World.size_alloc] at this)
  obtain ⟨W1, hW1⟩ : ∃ W1, W1 = (w.alloc (.cells #[.string s] 47)).alloc (.cells #[.int .i32 101, .int .i32 69] 21) := ⟨_, rfl⟩
  rw [← hW1] at HR1 HK1 HC a0
  have HS := Lib.hid (sgn2_no (c := 101) (d := 69) HR1.out (two_cell HC.out).1 (two_cell HC.out).2 hd)
  have k5 := HR1.out.c5
  have k0 := HR1.out.c0
  have kf := HR1.out.f 0
  clear h hd
  go_enter Tryz.func51, Tryz.ntmps51
  go_wp2_with fail
  rw [← hW1]
  clear hW1
  refine HS.out.mono ?_
  rintro o w2 ⟨rfl, rfl⟩
  go_wp2
  go_end0
  exact ⟨⟨_, rfl⟩, HR1.out.s0 _, HK1.out.setCell 0 _⟩

set_option maxRecDepth 100000 in
set_option maxHeartbeats 1000000 in
theorem power_some (B : Nat) (s s2 F R : ByteArray) (x : Int) (n : Bool) (wh fr : ByteArray) (le l2 : Bool) (w : World) (h : RdAt w B s n wh fr le ⟨#[]⟩) (h0 : 0 < s.size) (hd : (byteAt s 0).toNat = 101 ∨ (byteAt s 0).toNat = 69)
    (hS2 : ∀ (W : World) (C : Nat), RdAt W B (s.extract 1 s.size) n wh fr le ⟨#[]⟩ → W.cell? ⟨C, 0, none⟩ = some (.int .i32 ((43 : Nat) : Int)) → W.cell? ⟨C, 1, none⟩ = some (.int .i32 ((45 : Nat) : Int)) →
      Calls Tryz.prog 47 #[.pointer (some ⟨B, 0, none⟩), .slice (some ⟨C, 0, none⟩) 2 2] W fun o w' => o = .returned (.int .i32 x) ∧ RdAt w' B s2 n wh fr le ⟨#[]⟩ ∧ Kb B W w')
    (hx : (x == 45) = l2) (hF : F = s2.extract 0 (ndig s2.data.toList)) (hR : R = s2.extract (ndig s2.data.toList) s2.size) :
    Calls Tryz.prog 51 #[.pointer (some ⟨B, 0, none⟩)] w fun o w' => (∃ v, o = .returned v) ∧ RdAt w' B (if F.data.toList = [] then s else R) n wh fr l2 F ∧ Kb B w w' := by
  have HRun := Lib.hid (fun w => run_is B s2 F R n wh fr l2 ⟨#[]⟩ hF hR w)
  have HS2 := Lib.hid hS2
  have c0 := h.c0
  have hl := h.lt
  have HR1 := Lib.hid ((h.alloc (.cells #[.string s] 47)).alloc (.cells #[.int .i32 101, .int .i32 69] 21))
  have HK1 := Lib.hid (((Kb.refl B w).alloc (.cells #[.string s] 47)).alloc (.cells #[.int .i32 101, .int .i32 69] 21))
  have HA1 : Hid (((w.alloc (.cells #[.string s] 47)).alloc (.cells #[.int .i32 101, .int .i32 69] 21)).heap[w.heap.size]? = some (.cells #[.string s] 47 (0, 0))) := Lib.hid ((Below.heap_alloc _ _ _ (by simp)).trans (heap_alloc_new w _))
  have HC : Hid (((w.alloc (.cells #[.string s] 47)).alloc (.cells #[.int .i32 101, .int .i32 69] 21)).heap[w.heap.size + 1]? = some (.cells #[.int .i32 101, .int .i32 69] 21 (0, 0))) := Lib.hid (by
    have := heap_alloc_new (w.alloc (.cells #[.string s] 47)) (.cells #[.int .i32 101, .int .i32 69] 21)
    rwa [World.size_alloc] at this)
  obtain ⟨W1, hW1⟩ : ∃ W1, W1 = (w.alloc (.cells #[.string s] 47)).alloc (.cells #[.int .i32 101, .int .i32 69] 21) := ⟨_, rfl⟩
  rw [← hW1] at HR1 HK1 HC HA1
  have HS := Lib.hid (sgn2_yes (c := 101) (d := 69) HR1.out (two_cell HC.out).1 (two_cell HC.out).2 h0 hd)
  have hb0 : ¬ (((byteAt s 0).toNat : Int) = 0) := by rcases hd with h | h <;> omega
  have hb1 : (((byteAt s 0).toNat : Int) == 0) = false := by simpa using hb0
  clear h h0 hd hF hR hS2
  go_enter Tryz.func51, Tryz.ntmps51
  go_wp2_with fail
  rw [← hW1]
  clear hW1
  refine HS.out.mono ?_
  rintro o wa ⟨rfl, hra, hka⟩
  have HRa := Lib.hid (hra.alloc (.cells #[.int .i32 43, .int .i32 45] 21))
  have HKa := Lib.hid ((HK1.out.trans hka).alloc (.cells #[.int .i32 43, .int .i32 45] 21))
  have HAa := Lib.hid ((Below.heap_alloc wa (.cells #[.int .i32 43, .int .i32 45] 21) w.heap.size (Array.getElem?_eq_some_iff.1 ((hka.block _ (Array.getElem?_eq_some_iff.1 HA1.out).1 (by omega)).trans HA1.out)).1).trans ((hka.block _ (Array.getElem?_eq_some_iff.1 HA1.out).1 (by omega)).trans HA1.out))
  have HCa := Lib.hid (heap_alloc_new wa (.cells #[.int .i32 43, .int .i32 45] 21))
  clear hra hka
  go_wp2_with fail
  refine (HS2.out _ _ HRa.out (two_cell HCa.out).1 (two_cell HCa.out).2).mono ?_
  rintro o wb ⟨rfl, hrb, hkb⟩
  have HRb := Lib.hid hrb
  have HKb := Lib.hid (HKa.out.trans hkb)
  have HAb := Lib.hid ((hkb.block _ (Array.getElem?_eq_some_iff.1 HAa.out).1 (by omega)).trans HAa.out)
  have k4 := hrb.c4
  have kf4 := hrb.f 4
  clear hrb hkb
  go_wp2_with fail
  have HR2 := Lib.hid (show RdAt (wb.setCell ⟨B, 4, none⟩ (.bool l2)).drew B _ _ _ _ _ _ from HRb.out.s4 l2)
  have HK2 := Lib.hid ((HKb.out.setCell 4 (.bool l2)).drew)
  have HA2 := Lib.hid (show (wb.setCell ⟨B, 4, none⟩ (.bool l2)).drew.heap[w.heap.size]? = _ from (heap_setCell_other _ ⟨B, 4, none⟩ _ _ (by show _ ≠ B; omega)).trans HAb.out)
  obtain ⟨w2, hw2⟩ : ∃ w2, w2 = wb.setCell ⟨B, 4, none⟩ (.bool l2) := ⟨_, rfl⟩
  rw [← hw2] at HR2 HK2 HA2 ⊢
  clear hw2 k4 kf4 hx HRa HKa HAa HCa HRb HKb HAb
  go_region_held3 (fun _ => True) (trivial)
    (first
      | (go_at_call 72; refine (anyDigit_calls _).mono ?_; rintro o w3 ⟨rfl, rfl⟩)
      | (go_at_call 48; refine (HRun.out _ HR2.out).mono ?_; rintro o w3 ⟨rfl, hr3, hk3⟩; have k3 := hr3.c5; have kf3 := hr3.f 5))
  have HR4 := Lib.hid (hr3.s5 F)
  have HK4 := Lib.hid ((HK2.out.trans hk3).setCell 5 (.string F))
  have HA4 : Hid ((w3.setCell ⟨B, 5, none⟩ (.string F)).heap[w.heap.size]? = some (.cells #[.string s] 47 (0, 0))) := Lib.hid ((heap_setCell_other _ ⟨B, 5, none⟩ _ _ (by show _ ≠ B; omega)).trans ((hk3.block _ (Array.getElem?_eq_some_iff.1 HA2.out).1 (by omega)).trans HA2.out))
  obtain ⟨W4, hW4⟩ : ∃ W4, W4 = w3.setCell ⟨B, 5, none⟩ (.string F) := ⟨_, rfl⟩
  rw [← hW4] at HR4 HK4 HA4 ⊢
  clear hW4 hr3 hk3 k3 kf3 c0
  have d3 := HR4.out.c5
  have d0 := HR4.out.c0
  have df := HR4.out.f 0
  have a0 := one_cell HA4.out
  by_cases hE : F.data.toList = []
  · obtain rfl : F = ⟨#[]⟩ := str_inj hE
    have HE := Lib.hid hE
    clear hE
    go_wp2
    go_end0
    exact ⟨⟨_, rfl⟩, by first | exact HR4.out.s0 _ | (rw [if_pos HE.out]; exact HR4.out.s0 _), HK4.out.setCell 0 _⟩
  · have hne := ne_toList hE
    have hne2 : (F.toList == []) = false := beq_eq_false_iff_ne.2 hne
    have hne3 : F.toList.isEmpty = false := by simpa using hne
    have HE := Lib.hid hE
    clear hE
    go_wp2
    go_end0
    exact ⟨⟨_, rfl⟩, by first | exact HR4.out | (rw [if_neg HE.out]; exact HR4.out), HK4.out⟩

/-- What readFraction and readPower leave. -/
theorem ext_tail (s : ByteArray) : (s.extract 1 s.size).data.toList = s.data.toList.tail := by rw [drop_one, List.drop_one]
theorem ext_to (s : ByteArray) (k : Nat) : (s.extract 0 k).data.toList = s.data.toList.take k := by rw [Lib.extract_data]; simp
theorem ext_from (s : ByteArray) (k : Nat) : (s.extract k s.size).data.toList = s.data.toList.drop k := by
  rw [Lib.extract_data, List.take_of_length_le]
  rw [List.length_drop, ← Lib.size_eq]; exact Nat.le_refl _
theorem take_nil {l : List UInt8} : l.take (ndig l) = [] ↔ ndig l = 0 := by
  have := ndig_le l
  constructor
  · intro h
    have := congrArg List.length h
    rw [List.length_take, List.length_nil] at this
    omega
  · intro h; rw [h]; rfl
theorem fraction_calls (B : Nat) (s : ByteArray) (n : Bool) (wh : ByteArray) (le : Bool) (po : ByteArray) (w : World) (h : RdAt w B s n wh ⟨#[]⟩ le po) :
    ∃ F R : ByteArray, F.data.toList = s.data.toList.tail.take (fracN s.data.toList) ∧ R.data.toList = (if fracN s.data.toList = 0 then s.data.toList else s.data.toList.drop (1 + fracN s.data.toList)) ∧
    Calls Tryz.prog 50 #[.pointer (some ⟨B, 0, none⟩)] w fun o w' => (∃ v, o = .returned v) ∧ RdAt w' B R n wh F le po ∧ Kb B w w' := by
  by_cases hd : s.data.toList.head? = some 46
  · have h0 : 0 < s.size := by
      rcases Nat.eq_zero_or_pos s.size with h0 | h0
      · rw [nil_of h0] at hd; cases hd
      · exact h0
    have hb : (byteAt s 0).toNat = 46 := by
      rw [head_byte h0, Option.some.injEq] at hd
      rw [hd]; rfl
    have hf : fracN s.data.toList = ndig s.data.toList.tail := by rw [fracN, if_pos hd]
    refine ⟨(s.extract 1 s.size).extract 0 (ndig (s.extract 1 s.size).data.toList), _, ?_, ?_, fraction_point B s _ _ n wh le po w h h0 hb rfl rfl⟩
    · rw [ext_to, ext_tail, hf]
    · rw [ext_to, ext_tail, hf]
      by_cases hz : ndig s.data.toList.tail = 0
      · rw [if_pos (take_nil.2 hz), if_pos hz]
      · rw [if_neg (fun e => hz (take_nil.1 e)), if_neg hz, ext_from, ext_tail, ← List.drop_one, List.drop_drop]
  · have hf : fracN s.data.toList = 0 := by rw [fracN, if_neg hd]
    exact ⟨⟨#[]⟩, s, by rw [hf]; rfl, by rw [if_pos hf], fraction_none B s n wh le po w h (no46 hd)⟩

/-- What readPower takes off: the exponent's digits, whether it is below 0, what is left. -/
def PowF (l F R : List UInt8) (le : Bool) : Prop :=
  (headIs isE l = false ∧ F = [] ∧ R = l ∧ le = false) ∨
  (headIs isE l = true ∧ F = (l.drop (atN l)).take (ndig (l.drop (atN l))) ∧ R = (if ndig (l.drop (atN l)) = 0 then l else l.drop (atN l + ndig (l.drop (atN l)))) ∧ le = decide (l.tail.head? = some 45))
theorem byte_1 (s : ByteArray) : byteAt (s.extract 1 s.size) 0 = byteAt s 1 := by
  rw [byteAt_list, byteAt_list, ext_tail]
  cases s.data.toList with
  | nil => rfl
  | cons c t => cases t <;> rfl
theorem size_1 (s : ByteArray) : (s.extract 1 s.size).size = s.size - 1 := by rw [ByteArray.size_extract]; omega
theorem sz_extract (s : ByteArray) (k : Nat) : (s.extract k s.size).size = s.size - k := by rw [ByteArray.size_extract]; omega

theorem power_calls (B : Nat) (s : ByteArray) (n : Bool) (wh fr : ByteArray) (w : World) (h : RdAt w B s n wh fr false ⟨#[]⟩) :
    ∃ (F R : ByteArray) (le : Bool), PowF s.data.toList F.data.toList R.data.toList le ∧
    Calls Tryz.prog 51 #[.pointer (some ⟨B, 0, none⟩)] w fun o w' => (∃ v, o = .returned v) ∧ RdAt w' B R n wh fr le F ∧ Kb B w w' := by
  rcases Nat.eq_zero_or_pos s.size with h0 | h0
  · exact ⟨⟨#[]⟩, s, false, .inl ⟨by rw [nil_of h0]; rfl, rfl, rfl, rfl⟩, power_none B s n wh fr false w h (.inl h0)⟩
  have hE := head_is (p := isE) h0
  rw [isE_at] at hE
  by_cases hd : (byteAt s 0).toNat = 101 ∨ (byteAt s 0).toNat = 69
  · have hE1 : headIs isE s.data.toList = true := by
      rw [hE]; rcases hd with h | h <;> rw [h] <;> rfl
    have s1d := ext_tail s
    by_cases hs : 1 < s.size ∧ ((byteAt s 1).toNat = 43 ∨ (byteAt s 1).toNat = 45)
    · obtain ⟨h1, h2⟩ := hs
      have ht := tail_is (p := isS) h1
      have hat : atN s.data.toList = 2 := by
        rw [atN, ht.1, isS_at, if_pos]
        rcases h2 with h | h <;> rw [h] <;> rfl
      have s2d : ((s.extract 1 s.size).extract 1 (s.extract 1 s.size).size).data.toList = s.data.toList.drop 2 := by
        rw [ext_tail, ext_tail, ← List.drop_one, ← List.drop_one, List.drop_drop]
      refine ⟨_, _, _, ?_, power_some B s ((s.extract 1 s.size).extract 1 (s.extract 1 s.size).size) _ _ ((byteAt s 1).toNat : Int) n wh fr false _ w h h0 hd (fun W C hr h43 h45 => ?_) rfl rfl rfl⟩
      · refine .inr ⟨hE1, ?_, ?_, ?_⟩
        · rw [ext_to, s2d, hat]
        · rw [ext_to, s2d, hat]
          by_cases hz : ndig (s.data.toList.drop 2) = 0
          · rw [if_pos (take_nil.2 hz), if_pos hz]
          · rw [if_neg (fun e => hz (take_nil.1 e)), if_neg hz, ext_from, s2d, List.drop_drop]
        · rw [ht.2]
          by_cases h45 : (byteAt s 1).toNat = 45
          · rw [h45, show decide (some (byteAt s 1) = some 45) = true from by simpa using UInt8.toNat_inj.1 h45]; rfl
          · rw [show decide (some (byteAt s 1) = some 45) = false from by simp; intro e; exact h45 (by rw [e]; rfl)]; simp; omega
      · have := sgn2_yes (c := 43) (d := 45) hr h43 h45 (by rw [size_1]; omega) (by rw [byte_1]; exact h2)
        rw [byte_1] at this
        exact this
    · have hat : atN s.data.toList = 1 := by
        rw [atN, if_neg]
        by_cases h1 : 1 < s.size
        · rw [(tail_is (p := isS) h1).1, isS_at]
          intro e
          simp only [Bool.or_eq_true, beq_iff_eq] at e
          exact hs ⟨h1, by omega⟩
        · rw [tail_no h1]; intro e; cases e
      have hm : ¬ s.data.toList.tail.head? = some 45 := by
        intro e
        by_cases h1 : 1 < s.size
        · rw [(tail_is (p := isS) h1).2, Option.some.injEq] at e
          exact hs ⟨h1, .inr (by rw [e]; rfl)⟩
        · rw [tail_no h1] at e; cases e
      refine ⟨_, _, _, ?_, power_some B s (s.extract 1 s.size) _ _ 0 n wh fr false _ w h h0 hd (fun W C hr h43 h45 => ?_) rfl rfl rfl⟩
      · refine .inr ⟨hE1, ?_, ?_, ?_⟩
        · rw [ext_to, s1d, hat, List.drop_one]
        · rw [ext_to, s1d, hat, List.drop_one]
          by_cases hz : ndig s.data.toList.tail = 0
          · rw [if_pos (take_nil.2 hz), if_pos hz]
          · rw [if_neg (fun e => hz (take_nil.1 e)), if_neg hz, ext_from, s1d, ← List.drop_one, List.drop_drop]
        · rw [decide_eq_false hm]; rfl
      · refine (sgn2_no (c := 43) (d := 45) hr h43 h45 ?_).mono ?_
        · rw [size_1, byte_1]
          by_cases h1 : 1 < s.size
          · exact .inr ⟨fun e => hs ⟨h1, .inl e⟩, fun e => hs ⟨h1, .inr e⟩⟩
          · exact .inl (by omega)
        · rintro o w' ⟨rfl, rfl⟩
          exact ⟨rfl, hr, Kb.refl B _⟩
  · have hE0 : headIs isE s.data.toList = false := by
      rw [hE]
      simp only [Bool.or_eq_false_iff, beq_eq_false_iff_ne, ne_eq]
      omega
    exact ⟨⟨#[]⟩, s, false, .inl ⟨hE0, rfl, rfl, rfl⟩, power_none B s n wh fr false w h (.inr (by omega))⟩
end Go.Proofs.YtifccjchpciicaaGreatDoor
