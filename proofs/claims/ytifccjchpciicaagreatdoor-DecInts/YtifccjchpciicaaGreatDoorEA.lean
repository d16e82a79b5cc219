/- The walk of number. -/
import Derived.Test.YtifccjchpciicaaGreatDoorE9
namespace Go.Proofs.YtifccjchpciicaaGreatDoor
open Go.RowKit
open Go.Lib (decDigits nDigits)

/-- What number leaves: the parts of what is written. -/
structure NumAt (l : List UInt8) (R wh fr po : ByteArray) (n le : Bool) : Prop where
  sign : n = sgnL l
  whole : wh.data.toList = (offL l).take (leadN (offL l))
  frac : fr.data.toList = (r1L (offL l)).tail.take (fracN (r1L (offL l)))
  pow : PowF (r2L (offL l)) po.data.toList R.data.toList le
theorem lead0 {l : List UInt8} : l.take (leadN l) = [] ↔ ndig l = 0 := by
  cases l with
  | nil => exact ⟨fun _ => rfl, fun _ => rfl⟩
  | cons c t =>
    by_cases hc : c = 48
    · subst hc
      have h1 : leadN (48 :: t) = 1 := by rw [leadN, if_pos (show (48 :: t).head? = some 48 from rfl)]
      have h2 : 0 < ndig (48 :: t) := ndig_one (show isD 48 = true by decide)
      rw [h1]
      constructor
      · intro h; cases h
      · intro h; omega
    · have h1 : leadN (c :: t) = ndig (c :: t) := by rw [leadN, if_neg]; intro e; exact hc (Option.some.inj e)
      rw [h1]
      exact take_nil
/-- What number tells. -/
def NumPost (B : Nat) (l : List UInt8) (w : World) (o : Ending) (w' : World) : Prop :=
  Kb B w w' ∧ ((ndig (offL l) = 0 ∧ o = .returned (.bool false)) ∨ (ndig (offL l) ≠ 0 ∧ o = .returned (.bool true) ∧ ∃ (R wh fr po : ByteArray) (n le : Bool), NumAt l R wh fr po n le ∧ RdAt w' B R n wh fr le po))

set_option maxRecDepth 100000 in
set_option maxHeartbeats 1000000 in
theorem number_walk (B : Nat) (s s1 : ByteArray) (x : Int) (nb : Bool) (w : World) (h : RdAt w B s false ⟨#[]⟩ ⟨#[]⟩ false ⟨#[]⟩)
    (hS1 : ∀ (W : World) (C : Nat), RdAt W B s false ⟨#[]⟩ ⟨#[]⟩ false ⟨#[]⟩ → W.cell? ⟨C, 0, none⟩ = some (.int .i32 ((45 : Nat) : Int)) →
      Calls Tryz.prog 47 #[.pointer (some ⟨B, 0, none⟩), .slice (some ⟨C, 0, none⟩) 1 1] W fun o w' => o = .returned (.int .i32 x) ∧ RdAt w' B s1 false ⟨#[]⟩ ⟨#[]⟩ false ⟨#[]⟩ ∧ Kb B W w')
    (hx : (x != 0) = nb) (hn : nb = sgnL s.data.toList) (hs1 : s1.data.toList = offL s.data.toList) :
    Calls Tryz.prog 24 #[.pointer (some ⟨B, 0, none⟩)] w (NumPost B s.data.toList w) := by
  have hl := h.lt
  have HR1 := Lib.hid (h.alloc (.cells #[.int .i32 45] 21))
  have HK1 := Lib.hid ((Kb.refl B w).alloc (.cells #[.int .i32 45] 21))
  have HS := Lib.hid (hS1 _ _ HR1.out (cell_new1 w (.int .i32 45) 21))
  have HN := Lib.hid hn
  have HS1 := Lib.hid hs1
  have HX := Lib.hid hx
  obtain ⟨F0, hF0⟩ : ∃ F0, F0 = s1.extract 0 (leadN s1.data.toList) := ⟨_, rfl⟩
  obtain ⟨R0, hR0⟩ : ∃ R0, R0 = s1.extract (leadN s1.data.toList) s1.size := ⟨_, rfl⟩
  have HRun := Lib.hid (fun w0 w h hW hz hb => run_whole B s1 nb ⟨#[]⟩ ⟨#[]⟩ false ⟨#[]⟩ w0 w h hW hz hb)
  rw [← hF0, ← hR0] at HRun
  have HF0 := Lib.hid hF0
  have HR0 := Lib.hid hR0
  clear h hS1 hn hs1 hF0 hR0
  go_enter Tryz.func24, Tryz.ntmps24
  go_wp2_with fail
  refine HS.out.mono ?_
  rintro o w2 ⟨rfl, hr2, hk2⟩
  have HR2 := Lib.hid hr2
  have HK2 := Lib.hid (HK1.out.trans hk2)
  have k1 := hr2.c1
  have kf1 := hr2.f 1
  clear hr2 hk2
  go_wp2_with fail
  have HR3 := Lib.hid (show RdAt (w2.setCell ⟨B, 1, none⟩ (.bool nb)).drew B _ _ _ _ _ _ from HR2.out.s1 nb)
  have HK3 := Lib.hid ((HK2.out.setCell 1 (.bool nb)).drew)
  obtain ⟨W3, hW3⟩ : ∃ W3, W3 = w2.setCell ⟨B, 1, none⟩ (.bool nb) := ⟨_, rfl⟩
  rw [← hW3] at HR3 HK3 ⊢
  clear hW3 k1 kf1 hx HR1 HK1 HR2 HK2
  go_region_held3 (fun _ => True) (trivial)
    (first
      | (go_at_call 49; refine (wholeDigit_calls _).mono ?_; rintro o w4 ⟨rfl, hwh4, hz4, hb4⟩; have HWh4 := Lib.hid hwh4; have HZ4 := Lib.hid hz4; have HB4 := Lib.hid hb4; clear hwh4 hz4 hb4)
      | (go_at_call 48; refine (HRun.out _ _ HR3.out HWh4.out HZ4.out HB4.out).mono ?_; rintro o w5 ⟨rfl, hr5, hk5⟩; have k2 := hr5.c2; have kf2 := hr5.f 2))
  have HR6 := Lib.hid (hr5.s2 F0)
  have HK6 := Lib.hid ((HK3.out.trans hk5).setCell 2 (.string F0))
  obtain ⟨W6, hW6⟩ : ∃ W6, W6 = w5.setCell ⟨B, 2, none⟩ (.string F0) := ⟨_, rfl⟩
  rw [← hW6] at HR6 HK6 ⊢
  clear hW6 hr5 hk5 k2 kf2
  have d2 := HR6.out.c2
  by_cases hE : F0.data.toList = []
  · have HE : Hid (ndig (offL s.data.toList) = 0) := Lib.hid (by
      rw [HF0.out, ext_to, HS1.out] at hE
      exact lead0.1 hE)
    obtain rfl : F0 = ⟨#[]⟩ := str_inj hE
    clear hE
    go_wp2
    go_ret
    exact ⟨HK6.out, .inl ⟨HE.out, rfl⟩⟩
  · have hne := ne_toList hE
    have hne2 : (F0.toList == []) = false := beq_eq_false_iff_ne.2 hne
    have hne3 : F0.toList.isEmpty = false := by simpa using hne
    have HE : Hid (ndig (offL s.data.toList) ≠ 0) := Lib.hid (fun e => hE (by rw [HF0.out, ext_to, HS1.out]; exact lead0.2 e))
    clear hE
    obtain ⟨F1, R1, hf1, hr1, hc1⟩ := fraction_calls B _ _ _ _ _ W6 HR6.out
    have HF1 := Lib.hid hf1
    have HR1 := Lib.hid hr1
    have HC1 := Lib.hid hc1
    clear hf1 hr1 hc1
    go_wp2_with (go_at_call 50; refine HC1.out.mono ?_; rintro o w7 ⟨⟨v, rfl⟩, hr7, hk7⟩)
    have HK7 := Lib.hid (HK6.out.trans hk7)
    obtain ⟨F2, R2, l2, hp2, hc2⟩ := power_calls B _ _ _ _ w7 hr7
    have HP2 := Lib.hid hp2
    have HC2 := Lib.hid hc2
    clear hp2 hc2 hr7 hk7
    refine HC2.out.mono ?_
    rintro o w8 ⟨⟨v2, rfl⟩, hr8, hk8⟩
    have HK8 := Lib.hid (HK7.out.trans hk8)
    have HR8 := Lib.hid hr8
    clear hr8 hk8
    go_wp2
    go_ret
    have e1 : R0.data.toList = r1L (offL s.data.toList) := by rw [HR0.out, ext_from, HS1.out]; rfl
    have e2 : R1.data.toList = r2L (offL s.data.toList) := by rw [HR1.out, e1]; rfl
    refine ⟨HK8.out, .inr ⟨HE.out, rfl, R2, F0, F1, F2, nb, l2, ⟨HN.out, ?_, ?_, ?_⟩, HR8.out⟩⟩
    · rw [HF0.out, ext_to, HS1.out]
    · rw [HF1.out, e1]
    · rw [← e2]; exact HP2.out

theorem number_calls (B : Nat) (s : ByteArray) (w : World) (h : RdAt w B s false ⟨#[]⟩ ⟨#[]⟩ false ⟨#[]⟩) :
    Calls Tryz.prog 24 #[.pointer (some ⟨B, 0, none⟩)] w (NumPost B s.data.toList w) := by
  by_cases hd : s.data.toList.head? = some 45
  · have h0 : 0 < s.size := by
      rcases Nat.eq_zero_or_pos s.size with h0 | h0
      · rw [nil_of h0] at hd; cases hd
      · exact h0
    have hb : (byteAt s 0).toNat = 45 := by
      rw [head_byte h0, Option.some.injEq] at hd
      rw [hd]; rfl
    have hs : sgnL s.data.toList = true := by rw [sgnL]; simpa using hd
    exact number_walk B s (s.extract 1 s.size) 45 true w h (fun W C hr hC => sgn1_yes (c := 45) hr hC h0 hb) rfl hs.symm (by rw [ext_tail, offL, if_pos hs])
  · have hs : sgnL s.data.toList = false := by rw [sgnL]; exact decide_eq_false hd
    refine number_walk B s s 0 false w h (fun W C hr hC => ?_) rfl hs.symm (by rw [offL, hs]; rfl)
    refine (sgn1_no (c := 45) hr hC ?_).mono ?_
    · rcases Nat.eq_zero_or_pos s.size with h0 | h0
      · exact .inl h0
      · refine .inr fun e => hd ?_
        rw [head_byte h0, Option.some.injEq]
        exact UInt8.toNat_inj.1 e
    · rintro o w' ⟨rfl, rfl⟩
      exact ⟨rfl, hr, Kb.refl B _⟩
end Go.Proofs.YtifccjchpciicaaGreatDoor
