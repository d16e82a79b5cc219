/- Plain mathematics: the parts of what is written, and what it is read as. -/
import Derived.Test.YtifccjchpciicaaGreatDoorED
namespace Go.Proofs.YtifccjchpciicaaGreatDoor
open Go.RowKit
open Go.Lib (decDigits nDigits)

theorem take_digs (l : List UInt8) : (l.take (ndig l)).all isD = true := by
  rw [List.all_eq_true]
  intro c hc
  obtain ⟨i, hi, he⟩ := List.getElem_of_mem hc
  have hl : i < ndig l := by rw [List.length_take] at hi; omega
  obtain ⟨d, h1, h2⟩ := ndig_at l i hl
  have h3 : (l.take (ndig l))[i]? = some c := by rw [List.getElem?_eq_getElem hi, he]
  rw [List.getElem?_take_of_lt hl, h1] at h3
  cases h3
  exact h2
theorem digd_all {s : ByteArray} (h : s.data.toList.all isD = true) : Digd s s.size := fun q hq => by
  rw [List.all_eq_true] at h
  have := byte_get hq
  exact h _ (List.mem_of_getElem? this)
theorem fracN_le (r : List UInt8) : fracN r ≤ r.tail.length := by
  rw [fracN]
  split
  · exact ndig_le _
  · exact Nat.zero_le _
theorem dv_nil : dv [] = 0 := rfl
theorem zero_x (f : Nat) (b : Bool) : (if b = true then -((0 : Nat) : Int) else ((0 : Nat) : Int)) - (f : Int) = -(f : Int) + 0 := by cases b <;> simp

/-- What the parts come to. -/
theorem parse_parts {l : List UInt8} {R wh fr po : ByteArray} {n le : Bool} (h : NumAt l R wh fr po n le) (h0 : ndig (offL l) ≠ 0) :
    Digd po po.size ∧ wh.size ≤ l.length ∧ fr.size ≤ l.length ∧ (4 < po.size → parseR l = none) ∧
    (po.size ≤ 4 → parseR l = withR R.data.toList (makeR n (wh ++ fr).data.toList ((if le = true then -(dv po.data.toList : Int) else (dv po.data.toList : Int)) - fr.size))) := by
  obtain ⟨hn, hw, hf, hp⟩ := h
  have hoff : (offL l).length ≤ l.length := by
    rw [offL]; split
    · rw [List.length_tail]; omega
    · exact Nat.le_refl _
  have hr1 : (r1L (offL l)).length ≤ l.length := by rw [r1L, List.length_drop]; omega
  have hwl : wh.size ≤ l.length := by rw [Lib.size_eq, hw, List.length_take]; omega
  have hfs : fr.size = fracN (r1L (offL l)) := by
    rw [Lib.size_eq, hf, List.length_take]
    have := fracN_le (r1L (offL l))
    omega
  have hfl : fr.size ≤ l.length := by
    have := fracN_le (r1L (offL l))
    rw [List.length_tail] at this
    omega
  have hall : allD (offL l) = (wh ++ fr).data.toList := by rw [app_data, hw, hf]; rfl
  obtain ⟨r2, hr2⟩ : ∃ r2, r2 = r2L (offL l) := ⟨_, rfl⟩
  rw [← hr2] at hp
  rcases hp with ⟨e1, e2, e3, e4⟩ | ⟨e1, e2, e3, e4⟩
  · have hx : expoR r2 = some (0, 0) := by rw [expoR, e1]; rfl
    refine ⟨digd_all (by rw [e2]; rfl), hwl, hfl, fun h => ?_, fun _ => ?_⟩
    · rw [Lib.size_eq, e2] at h; exact absurd h (by decide)
    · rw [parse_with h0 (by rw [← hr2]; exact hx), ← hr2, hall, e3, e2, e4, hn, hfs, dv_nil, zero_x]
      rfl
  · obtain ⟨q, hq⟩ : ∃ q, q = r2.drop (atN r2) := ⟨_, rfl⟩
    rw [← hq] at e2 e3
    have hps : po.size = ndig q := by rw [Lib.size_eq, e2, List.length_take]; have := ndig_le q; omega
    have hdig : Digd po po.size := digd_all (by rw [e2]; exact take_digs q)
    refine ⟨hdig, hwl, hfl, fun h => ?_, fun h => ?_⟩
    · have hx : expoR r2 = none := by rw [expoR, if_pos e1, ← hq, if_pos (by omega)]
      rw [parseR, if_neg h0, ← hr2, hx]
    · by_cases hz : ndig q = 0
      · have hx : expoR r2 = some (0, 0) := by rw [expoR, if_pos e1, ← hq, if_neg (by omega), if_pos hz]
        rw [if_pos hz] at e3
        have hpo : po.data.toList = [] := by rw [e2, hz]; rfl
        rw [parse_with h0 (by rw [← hr2]; exact hx), ← hr2, hall, e3, hpo, hn, hfs, dv_nil, zero_x]
        rfl
      · rw [if_neg hz] at e3
        have hx : expoR r2 = some ((if r2.tail.head? = some 45 then -(dv po.data.toList : Int) else (dv po.data.toList : Int)), atN r2 + ndig q) := by
          rw [expoR, if_pos e1, ← hq, if_neg (by omega), if_neg hz, e2]
        rw [parse_with h0 (by rw [← hr2]; exact hx), ← hr2, hall, e3, hn, hfs]
        congr 2
        by_cases hm : r2.tail.head? = some 45
        · rw [if_pos hm, show le = true from by rw [e4]; exact decide_eq_true hm, if_pos rfl]; omega
        · rw [if_neg hm, show le = false from by rw [e4]; exact decide_eq_false hm]
          rw [if_neg (by decide)]; omega
theorem withR_long {l : List UInt8} {R : List UInt8} {n : Bool} {x : Int} (h : 400 < l.length) : withR R (makeR n l x) = none := by rw [makeR_bad (.inr (.inl h))]; rfl
end Go.Proofs.YtifccjchpciicaaGreatDoor
