/- Texts as an argument, opened. -/
import Derived.Test.YtppapkpceejnkaaGreatDoorZw
import Derived.Test.YtppapkpceejnkaaGreatDoorYt
import Derived.SliceStrings
namespace Go.Proofs.YtppapkpceejnkaaGreatDoor
open Go.ChangeShapes Go.WideShapes Go.ChangeAt Go.RowKit

section
variable {H : Type} {enc : TypeId × Value → H} {w : World} {base : Nat} {spare : Nat → Bool} {held : Bool}
set_option maxRecDepth 100000 in
theorem open_strK {r : Reach} {b0 : Nat} {v : Value} {d : DataW H} {ps : List MemPlace} (hval : Value.okWide Tryz.prog w r b0 39 v) (hd : DataW.Trod enc Tryz.prog w base spare held 39 v d ps) : ∃ ks, Kt w v ks := by
  obtain ⟨a, len, cap, rfl⟩ := okWide_slice Tryz.underlying39 hval
  obtain ⟨fuel, hf⟩ := hd
  rcases open_strings Tryz.underlying39 Tryz.underlying9 cellsSt hf with ⟨e, _⟩ | ⟨a', len', cap', ss, e, hb, hlc, hcm, hl, _, hc, hs⟩
  · cases e
    exact ⟨[], none, 0, rfl, by decide, fun h => absurd rfl h, by simp⟩
  · cases e
    have hlen : len ≤ ss.length := by rw [hl]; split <;> omega
    have htl : (ss.take len).length = len := by rw [List.length_take]; omega
    have hat : ∀ i s, (ss.take len)[i]? = some s → i < len ∧ w.cell? (a'.add i) = some (.string s) := fun i s h => by
      have hi : i < len := by
        have := (List.getElem?_eq_some_iff.1 h).1
        omega
      refine ⟨hi, ?_⟩
      have h1 := hc i (by omega)
      rw [List.getElem?_take_of_lt hi] at h
      rw [h1, List.getD_eq_getElem?_getD, h]
      rfl
    refine ⟨ss.take len, some a', cap, by rw [htl], by rw [htl]; unfold maxLen at hcm; omega, fun h0 => ?_, fun s hm => ?_⟩
    · rw [htl] at h0
      obtain ⟨s0, h0'⟩ : ∃ s, (ss.take len)[0]? = some s := ⟨_, List.getElem?_eq_getElem (by omega)⟩
      have h1 := (hat 0 s0 h0').2
      have hsp : a'.spot = none := by
        have h2 : w.cell? a' = some (.string s0) := by simpa [Addr.add] using h1
        unfold World.cell? at h2
        split at h2
        · split at h2
          · cases h2
          · rename_i hns
            cases hs' : a'.spot with
            | none => rfl
            | some x => rw [hs'] at hns; exact absurd rfl hns
        · cases h2
      obtain ⟨B, o, sp⟩ := a'
      simp only at hsp
      subst hsp
      have hadd : ∀ i, (⟨B, o, none⟩ : Addr).add i = ⟨B, o + i, none⟩ := fun i => by
        unfold Addr.add
        split
        · rename_i e; simp_all
        · rfl
      refine ⟨B, o, rfl, ?_, fun i s h => ?_⟩
      · have h3 := lt_of_cell0 (by rw [hadd] at h1; exact h1)
        exact h3
      · have h4 := (hat i s h).2
        rwa [hadd] at h4
    · have := hs s (List.mem_of_mem_take hm)
      unfold maxLen at this
      omega
end
end Go.Proofs.YtppapkpceejnkaaGreatDoor
