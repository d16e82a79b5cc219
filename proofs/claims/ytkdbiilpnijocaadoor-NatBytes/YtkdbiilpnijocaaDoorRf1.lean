/- The walks of the document's own answers: Right, Trim, digit, compare, Compare. -/
import Derived.Test.YtkdbiilpnijocaaDoorBack
namespace Go.Proofs.YtkdbiilpnijocaaDoor
open Go.RowKit
open Go.Lib (decDigits nDigits nDigits_small lt_pow_nDigits)

theorem not_nat {s : ByteArray} (h : ¬ (Goes s ∧ ∀ t, t < s.size → isD (byteAt s t) = true)) : isNat s.data.toList = false := by
  rw [Bool.eq_false_iff]
  intro h1
  exact h ((isNat_iff s).1 h1)

set_option maxRecDepth 100000 in
set_option maxHeartbeats 1000000 in
theorem rRight_calls (s : ByteArray) (w : World) : Calls Tryd.prog 20 #[.string s] w fun e w' => e = .returned (.bool (isNat s.data.toList)) ∧ w' = w := by
  by_cases hz : s.size = 0
  · have HN := Lib.hid (not_nat (s := s) (fun h => by have := h.1.1; omega))
    go_enter Tryd.func20, Tryd.ntmps20
    go_wp2
    go_ret
    exact ⟨by rw [HN.out]; rfl, rfl⟩
  · by_cases h4 : 400 < s.size
    · have HN := Lib.hid (not_nat (s := s) (fun h => by have := h.1.2.1; omega))
      go_enter Tryd.func20, Tryd.ntmps20
      go_wp2
      go_ret
      exact ⟨by rw [HN.out]; rfl, rfl⟩
    · have h0 : 0 < s.size := by omega
      by_cases hc : 1 < s.size ∧ (byteAt s 0).toNat = 48
      · obtain ⟨h1, hb⟩ := hc
        have HN := Lib.hid (not_nat (s := s) (fun h => by have h2 := h.1.2.2 hb; have h3 := Lib.size_eq s; rw [h2] at h3; simp at h3; omega))
        have hb' : (((s[0]'h0).toNat : Int) == 48) = true := by rw [← byteAt_eq s 0 h0, hb]; rfl
        go_enter Tryd.func20, Tryd.ntmps20
        go_wp2
        go_ret
        exact ⟨by rw [HN.out]; rfl, rfl⟩
      · have HG : Hid (Goes s) := Lib.hid ⟨h0, by omega, fun h => by
          have h1 : s.size = 1 := by
            rcases Nat.lt_or_ge 1 s.size with h' | h'
            · exact absurd ⟨h', h⟩ hc
            · omega
          have h3 := Lib.size_eq s
          rw [byteAt_list] at h
          cases e : s.data.toList with
          | nil => rw [e, List.length_nil] at h3; omega
          | cons c l =>
            rw [e] at h3 h
            have : l = [] := List.eq_nil_of_length_eq_zero (by rw [List.length_cons] at h3; omega)
            subst this
            have : c = 48 := UInt8.toNat.inj (by simpa using h)
            rw [this]⟩
        have hdec : s.size = 1 ∨ (1 < s.size ∧ (((s[0]'h0).toNat : Int) == 48) = false) := by
          rcases Nat.lt_or_ge 1 s.size with h' | h'
          · refine .inr ⟨h', ?_⟩
            rw [← byteAt_eq s 0 h0]
            exact beq_eq_false_iff_ne.2 (fun e => hc ⟨h', by omega⟩)
          · exact .inl (by omega)
        clear hc
        rcases hdec with h1 | ⟨h1, hb⟩
        all_goals
          go_enter Tryd.func20, Tryd.ntmps20
          go_wp2
          go_loop [3] (fun i => ∃ k : Nat, i = .int .i64 k ∧ k ≤ s.size ∧ ∀ t, t < k → isD (byteAt s t) = true) (fun i => s.size - (intOf i).toNat)
          case atStart => exact ⟨0, rfl, Nat.zero_le _, fun t ht => by omega⟩
          case round =>
            obtain ⟨k, rfl, hk, ht⟩ := hrel
            have HD := Lib.hid ht
            clear ht
            by_cases hlt : k < s.size
            · have hbe : (s[k]'hlt).toNat = (byteAt s k).toNat := by rw [byteAt_eq s k hlt]
              have hby : (byteAt s k).toNat < 256 := (byteAt s k).toNat_lt
              by_cases hl : (byteAt s k).toNat < 48
              · have HN := Lib.hid (not_nat (s := s) (fun h => by have := (isD_iff _).1 (h.2 k hlt); omega))
                go_wp2
                go_ret
                exact ⟨by rw [HN.out]; rfl, rfl⟩
              · by_cases hg : 57 < (byteAt s k).toNat
                · have HN := Lib.hid (not_nat (s := s) (fun h => by have := (isD_iff _).1 (h.2 k hlt); omega))
                  go_wp2
                  go_ret
                  exact ⟨by rw [HN.out]; rfl, rfl⟩
                · go_wp2
                  go_round
                  case rel =>
                    refine ⟨k + 1, by go_num, by omega, fun t ht => ?_⟩
                    by_cases e : t = k
                    · subst e; exact (isD_iff _).2 (by omega)
                    · exact HD.out t (by omega)
                  case measure => simp [intOf]; omega
            · have HN := Lib.hid ((isNat_iff s).2 ⟨HG.out, fun t ht => HD.out t (by omega)⟩)
              go_wp2
              go_ret
              exact ⟨by rw [HN.out]; rfl, rfl⟩
end Go.Proofs.YtkdbiilpnijocaaDoor
