/- Plain mathematics: zeros taken off at either end. -/
import Derived.Test.YtgcalhnfoakggaaGreatDoorE0
import Derived.Test.YtgcalhnfoakggaaGreatDoorMd
import Derived.Lib.TrimByte
namespace Go.Proofs.YtgcalhnfoakggaaGreatDoor
open Go.RowKit
open Go.Lib (decDigits nDigits)

theorem trimL_parts (l : List UInt8) : ∃ p, l = List.replicate p 48 ++ Lib.trimLeftB l 48 ∧ (Lib.trimLeftB l 48).head? ≠ some 48 := by
  induction l with
  | nil => exact ⟨0, rfl, by simp [Lib.trimLeftB]⟩
  | cons c l ih =>
    by_cases hc : c = 48
    · subst hc
      obtain ⟨p, h1, h2⟩ := ih
      refine ⟨p + 1, ?_, ?_⟩
      · have : Lib.trimLeftB (48 :: l) 48 = Lib.trimLeftB l 48 := by simp [Lib.trimLeftB]
        rw [this, List.replicate_succ, List.cons_append, ← h1]
      · have : Lib.trimLeftB (48 :: l) 48 = Lib.trimLeftB l 48 := by simp [Lib.trimLeftB]
        rw [this]; exact h2
    · have : Lib.trimLeftB (c :: l) 48 = c :: l := by simp [Lib.trimLeftB, hc]
      exact ⟨0, by rw [this]; rfl, by rw [this]; simpa using hc⟩
theorem trimR_parts (l : List UInt8) : ∃ p, l = Lib.trimRightB l 48 ++ List.replicate p 48 ∧ (Lib.trimRightB l 48).getLast? ≠ some 48 := by
  obtain ⟨p, h1, h2⟩ := trimL_parts l.reverse
  refine ⟨p, ?_, ?_⟩
  · have := congrArg List.reverse h1
    rw [List.reverse_reverse, List.reverse_append, List.reverse_replicate] at this
    exact this
  · have : Lib.trimRightB l 48 = (Lib.trimLeftB l.reverse 48).reverse := rfl
    rw [this, List.getLast?_reverse]
    exact h2

theorem dv_last {l : List UInt8} (h1 : l.all isD = true) (h0 : l ≠ []) (h2 : l.getLast? ≠ some 48) : dv l % 10 ≠ 0 := by
  obtain ⟨m, c, rfl⟩ : ∃ m c, l = m ++ [c] := ⟨l.dropLast, l.getLast h0, (List.dropLast_concat_getLast h0).symm⟩
  rw [List.all_append, Bool.and_eq_true, List.all_cons, Bool.and_eq_true] at h1
  have hc := (isD_iff c).1 h1.2.1
  rw [dv_snoc]
  have : c ≠ 48 := by simpa using h2
  have h3 : c.toNat ≠ 48 := fun e => this (UInt8.toNat_inj.1 e)
  omega

theorem isNat_mk {l : List UInt8} (h1 : l ≠ []) (h2 : l.length ≤ 400) (h3 : l.head? ≠ some 48) (h4 : l.all isD = true) : isNat l = true := by
  rw [isNat, h4]
  have : l.isEmpty = false := by cases l; exact absurd rfl h1; rfl
  simp [this, h2, h3]

/-- What Make comes to, by its own steps. -/
theorem make_steps {n : Bool} {l nat kept : List UInt8} {e : Int} (hl : l.length ≤ 400) (h0 : l ≠ []) (h1 : -1000 ≤ e) (h2 : e ≤ 1000) (hn : nat = Lib.trimLeftB l 48) (hk : kept = Lib.trimRightB nat 48) :
    (nat = [] → makeR n l e = some (false, 0, 0)) ∧ (nat ≠ [] → isNat nat = false → makeR n l e = none) ∧
    (isNat nat = true → kept.length ≤ nat.length ∧ isNat kept = true ∧ kept ≠ [48] ∧ (rightD n kept (e + nat.length - kept.length) = true → makeR n l e = some (n, dv kept, e + nat.length - kept.length) ∧ decDigits (dv kept) = kept) ∧ (rightD n kept (e + nat.length - kept.length) = false → makeR n l e = none)) := by
  obtain ⟨p, e1, e2⟩ := trimL_parts l
  rw [← hn] at e1 e2
  have hlen : p + nat.length = l.length := by
    have := congrArg List.length e1
    simp at this
    omega
  refine ⟨fun hz => ?_, fun hz hf => ?_, fun ht => ?_⟩
  · rw [hz, List.append_nil] at e1
    have ha : l.all isD = true := by rw [e1]; exact all_rep p
    refine makeR_zero (fun h => ?_) ?_
    · rcases h with h | h | h | h | h
      · exact h0 h
      · omega
      · omega
      · omega
      · rw [ha] at h; cases h
    · have := dv_pad p []
      rw [List.append_nil] at this
      rw [e1, this]; rfl
  · refine makeR_bad (.inr (.inr (.inr (.inr ?_))))
    rw [Bool.eq_false_iff]
    intro ha
    rw [e1, List.all_append, Bool.and_eq_true] at ha
    rw [Bool.eq_false_iff] at hf
    exact hf (isNat_mk hz (by omega) e2 ha.2)
  · obtain ⟨g1, g2, g3, g4⟩ := isNat_parts ht
    obtain ⟨k, f1, f2⟩ := trimR_parts nat
    rw [← hk] at f1 f2
    have hlk : kept.length + k = nat.length := by
      have := congrArg List.length f1
      simp at this
      omega
    have hka : kept.all isD = true := by
      rw [f1, List.all_append, Bool.and_eq_true] at g4
      exact g4.1
    have hk0 : kept ≠ [] := by
      intro hz
      rw [hz, List.nil_append] at f1
      cases k with
      | zero => exact g1 (by rw [f1]; rfl)
      | succ k => exact e2 (by rw [f1]; rfl)
    have hkh : kept.head? ≠ some 48 := by
      intro hz
      apply e2
      rw [f1]
      cases kept with
      | nil => cases hz
      | cons c t => simpa using hz
    have hkn : isNat kept = true := isNat_mk hk0 (by omega) hkh hka
    have hk48 : kept ≠ [48] := fun hz => hkh (by rw [hz]; rfl)
    have hla : l.all isD = true := by
      rw [e1, List.all_append, all_rep p, g4]; rfl
    have hcan : decDigits (dv kept) = kept := dec_canon hk0 (.inl hkh) hka
    have hdl := dv_last hka hk0 f2
    have hdv : dv l = dv kept * 10 ^ k := by
      rw [e1, dv_pad, f1, dv_zeros]
    have hbad : ¬ (l = [] ∨ 400 < l.length ∨ e < -1000 ∨ 1000 < e ∨ l.all isD = false) := by
      intro h
      rcases h with h | h | h | h | h
      · exact h0 h
      · omega
      · omega
      · omega
      · rw [hla] at h; cases h
    have hm := makeR_more (n := n) hbad hdv hdl (by omega)
    have hr := rightD_dec n hdl (lim_dv (by omega) hka hk0) (e + k)
    have hx : e + (nat.length : Int) - (kept.length : Int) = e + k := by omega
    rw [hcan] at hr
    refine ⟨by omega, hkn, hk48, fun h => ⟨?_, hcan⟩, fun h => ?_⟩
    · rw [hx] at h ⊢
      rw [hr] at h
      simp only [Bool.and_eq_true, decide_eq_true_eq] at h
      rw [hm, if_pos h]
    · rw [hx, hr] at h
      rw [hm, if_neg]
      rintro ⟨a1, a2, a3⟩
      simp [a1, a2, a3] at h
end Go.Proofs.YtgcalhnfoakggaaGreatDoor
