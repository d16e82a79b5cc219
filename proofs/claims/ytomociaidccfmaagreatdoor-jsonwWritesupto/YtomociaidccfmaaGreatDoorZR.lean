/- What an argument reads as has at least as many values as the tree has nodes. -/
import Derived.Test.YtomociaidccfmaaGreatDoorMa
import Derived.Test.YtomociaidccfmaaGreatDoorRows
import Derived.Test.YtomociaidccfmaaGreatDoorMr
namespace Go.Proofs.YtomociaidccfmaaGreatDoor
open Go.ChangeShapes Go.WideShapes Go.ChangeAt Go.RowKit

section
variable {H : Type} {enc : TypeId × Value → H} {w : World} {base : Nat} {spare : Nat → Bool} {held : Bool}
theorem bulk_mem {d : DataW H} : ∀ {l : List (DataW H)}, d ∈ l → Rows.uptoBulk d ≤ Rows.uptoBulkAll l
  | [], h => absurd h List.not_mem_nil
  | _ :: _, h => by
    rw [Rows.uptoBulkAll]
    rcases List.mem_cons.1 h with rfl | h
    · exact Nat.le_add_right _ _
    · exact Nat.le_trans (bulk_mem h) (Nat.le_add_left _ _)
theorem open_bulk {n : Nat} {cs : List Value} {x : DataW H × List MemPlace} (h : DataW.trod enc Tryz.prog w base spare held (n + 1) 27 cs = some x) :
    ∃ (hd : Hd) (v : Value) (y : DataW H × List MemPlace), cs = (hd.cells v).toList ∧ hd.u < 18446744073709551616 ∧ DataW.trod enc Tryz.prog w base spare held n 25 [v] = some y ∧ Rows.uptoBulk y.1 + 1 ≤ Rows.uptoBulk x.1 := by
  obtain ⟨hd, v, y, rfl, hu, hy⟩ := open_fields h
  obtain ⟨xs, m, hm, hx, hl, hlen, hf⟩ := DataW.trod_struct Tryz.underlying27 h
  obtain rfl : m = n := by omega
  have h6 : DataW.trod enc Tryz.prog w base spare held m 25 (((hd.cells v).toList.drop 8).take (Tryz.prog.cellsOf 25)) = xs[6]? := hf 6 _ rfl
  rw [cellsLs] at h6
  have e : ((hd.cells v).toList.drop 8).take 1 = [v] := rfl
  rw [e, hy] at h6
  have hmem : y.1 ∈ xs.map (·.1) := List.mem_map.2 ⟨y, List.mem_of_getElem? h6.symm, rfl⟩
  refine ⟨hd, v, y, rfl, hu, hy, ?_⟩
  rw [hx]
  show _ ≤ Rows.uptoBulk (.agg _)
  rw [Rows.uptoBulk]
  have := bulk_mem hmem
  omega
set_option maxRecDepth 100000 in
/-- The nodes that a list reads as. -/
theorem open_nodesB (n : Nat) : (∀ cs x, DataW.trod enc Tryz.prog w base spare held n 25 cs = some x → ∃ v k, cs = [v] ∧ Kd An w v k ∧ k.cnt ≤ Rows.uptoBulk x.1) ∧ (∀ cs x, DataW.trod enc Tryz.prog w base spare held n 27 cs = some x → ∃ (h : Hd) (v : Value) (k : Fo), cs = (h.cells v).toList ∧ Kd An w v k ∧ h.u < 18446744073709551616 ∧ k.cnt + 1 ≤ Rows.uptoBulk x.1) := by
  induction n with
  | zero => exact ⟨fun cs x h => by simp [DataW.trod] at h, fun cs x h => by simp [DataW.trod] at h⟩
  | succ n ih =>
    refine ⟨fun cs x h => ?_, fun cs x h => ?_⟩
    · rcases DataW.trod_slice Tryz.underlying25 h with ⟨rfl, _⟩ | ⟨a, len, cap, elems, rest, m, hm, rfl, hx, hb, hlc, hcm, hel, hat, _, _⟩
      · exact ⟨_, .nil, rfl, .inl ⟨none, 0, rfl, rfl⟩, Nat.zero_le _⟩
      · obtain rfl : m = n := by omega
        cases len with
        | zero => exact ⟨_, .nil, rfl, .inl ⟨_, _, rfl, rfl⟩, Nat.zero_le _⟩
        | succ len =>
          have hone : ∀ i, i < len + 1 → ∃ cs', w.cells? base (a.add (i * 9)) 9 = some cs' ∧ ∃ y, elems[i]? = some y ∧ DataW.trod enc Tryz.prog w base spare held m 27 cs' = some y := fun i hi => by
            have h1 := hat i hi
            rw [cellsN, List.getElem?_eq_getElem (by omega)] at h1
            obtain ⟨cs', h2, h3⟩ := Option.bind_eq_some_iff.1 h1
            exact ⟨cs', h2, _, List.getElem?_eq_getElem (by omega), h3⟩
          have hsp : a.spot = none := by
            obtain ⟨cs', h2, _⟩ := hone 0 (by omega)
            have := (cells_addr h2 (by decide)).1
            simpa [Addr.add] using this
          have hblk : a.block < w.heap.size := by
            obtain ⟨cs', h2, _⟩ := hone 0 (by omega)
            obtain ⟨_, hl, hc⟩ := cells_addr h2 (by decide)
            have := hc 0 _ (List.getElem?_eq_getElem (by omega))
            have h3 := lt_of_cell0 this
            simpa [Addr.add] using h3
          have hall : ∀ (q i : Nat), i + q = len + 1 → ∃ k, k.len = q ∧ Lies An w k a.block (a.off + i * 9) ∧ k.cnt ≤ Rows.uptoBulkAll ((elems.drop i).map (·.1)) := by
            intro q
            induction q with
            | zero => intro i _; exact ⟨.nil, rfl, trivial, Nat.zero_le _⟩
            | succ q ihq =>
              intro i hi
              obtain ⟨r, hr1, hr2, hr3⟩ := ihq (i + 1) (by omega)
              obtain ⟨cs', h2, y, hy, h3⟩ := hone i (by omega)
              obtain ⟨hd, v, k, rfl, hk, hu, hcn⟩ := ih.2 cs' y h3
              obtain ⟨_, _, hc⟩ := cells_addr h2 (by decide)
              have hsplit : elems.drop i = y :: elems.drop (i + 1) := by
                obtain ⟨hi1, hi2⟩ := List.getElem?_eq_some_iff.1 hy
                rw [← hi2]
                exact List.drop_eq_getElem_cons hi1
              refine ⟨.cons hd k r, by simp [Fo.len, hr1], lies_cons.2 ⟨⟨v, ?_, hk⟩, hu, by rwa [show a.off + i * 9 + 9 = a.off + (i + 1) * 9 by omega]⟩, by
                rw [hsplit, List.map_cons, Rows.uptoBulkAll, Fo.cnt]
                omega⟩
              intro j u hj
              have h4 := hc j u (by rwa [Array.getElem?_toList])
              have h5 : (a.add (i * 9)).block = a.block ∧ (a.add (i * 9)).off = a.off + i * 9 := by
                unfold Addr.add
                split
                · rename_i e; exact ⟨rfl, by omega⟩
                · exact ⟨rfl, rfl⟩
              rwa [h5.1, h5.2] at h4
          obtain ⟨k, hk1, hk2, hk3⟩ := hall (len + 1) 0 (by omega)
          rw [Nat.zero_mul, Nat.add_zero] at hk2
          refine ⟨_, k, rfl, .inr ⟨a.block, a.off, cap, ?_, by omega, by unfold maxLen at hcm; omega, hblk, trivial, hk2⟩, by
            rw [hx]
            show k.cnt ≤ Rows.uptoBulk (.slice _ _)
            rw [Rows.uptoBulk]
            rw [List.drop_zero] at hk3
            omega⟩
          rw [hk1]
          cases a
          simp_all
    · obtain ⟨hd, v, y, rfl, hu, hy, hb⟩ := open_bulk h
      obtain ⟨v', k, e, hk, hc⟩ := ih.1 _ _ hy
      cases e
      exact ⟨hd, v, k, rfl, hk, hu, by omega⟩
set_option maxRecDepth 100000 in
theorem open_nodeB {r : Reach} {b0 : Nat} {v : Value} {d : DataW H} {ps : List MemPlace} (hval : Value.okWide Tryz.prog w r b0 27 v) (hd : DataW.Trod enc Tryz.prog w base spare held 27 v d ps) :
    ∃ (h : Hd) (u : Value) (k : Fo), v = .agg (h.cells u) ∧ Kd An w u k ∧ h.u < 18446744073709551616 ∧ k.cnt + 1 ≤ Rows.uptoBulk d := by
  obtain ⟨cs, rfl, _⟩ := okWide_struct Tryz.underlying27 hval
  obtain ⟨fuel, hf⟩ := hd
  obtain ⟨h, u, k, hc, hk, hu, hb⟩ := (open_nodesB fuel).2 _ _ hf
  refine ⟨h, u, k, ?_, hk, hu, hb⟩
  have : cs = h.cells u := Array.toList_inj.1 hc
  rw [this]
end
theorem cutF_cnt : ∀ (f : Fo) (D m : Nat), (cutF f D m).cnt ≤ f.cnt
  | .nil, _, _ => Nat.le_refl _
  | .cons h k r, D, m => by
    rw [cutF]
    split
    · exact Nat.zero_le _
    · simp only [Fo.cnt]
      have h1 := cutF_cnt r D (m - 1)
      have h2 : (if D ≤ 1 then Fo.nil else cutF k (D - 1) 40).cnt ≤ k.cnt := by
        split
        · exact Nat.zero_le _
        · exact cutF_cnt k (D - 1) 40
      omega
theorem few_cnt {k : Fo} (h : k.cnt ≤ 1048576) : (fewK k).cnt < 1000 := by
  rw [fewK]
  have h1 : (cutK 18 k).cnt ≤ k.cnt := cutF_cnt k 17 40
  split
  · decide
  · rename_i hn
    have : wrap64 (1 + ((cutK 18 k).cnt : Int)) = 1 + ((cutK 18 k).cnt : Int) := by unfold wrap64; omega
    omega
end Go.Proofs.YtomociaidccfmaaGreatDoor
