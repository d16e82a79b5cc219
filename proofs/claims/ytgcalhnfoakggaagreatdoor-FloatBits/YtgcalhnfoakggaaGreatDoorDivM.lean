/- Plain facts on dividing limb by limb. -/
import Derived.Test.YtgcalhnfoakggaaGreatDoorMn1
namespace Go.Proofs.YtgcalhnfoakggaaGreatDoor

/-- One limb more, as divide goes. -/
def stepV (d : Nat) (S : List Nat × Nat) (x : Nat × Nat) : List Nat × Nat := (S.1.set x.1 ((S.2 * 1000000000 + x.2) / d), (S.2 * 1000000000 + x.2) % d)
def foldV (d n : Nat) (l : List (Nat × Nat)) : List Nat × Nat := l.foldl (stepV d) (List.replicate n 0, 0)
theorem foldV_snoc (d n : Nat) (l : List (Nat × Nat)) (x : Nat × Nat) : foldV d n (l ++ [x]) = stepV d (foldV d n l) x := by simp [foldV]

structure DvI (d n : Nat) (S : List Nat × Nat) : Prop where
  len : S.1.length = n
  lt : S.2 < d
  bd : Bd S.1

theorem lat_rep0 (n a : Nat) : lat (List.replicate n 0) a = 0 := by
  simp only [lat, List.getElem?_replicate]
  split <;> rfl

theorem total_lt {d r x : Nat} (hr : r < d) (hx : x < 1000000000) : r * 1000000000 + x < d * 1000000000 := by
  have : (r + 1) * 1000000000 ≤ d * 1000000000 := Nat.mul_le_mul_right _ hr
  omega
theorem quot_lt {d r x : Nat} (hr : r < d) (hx : x < 1000000000) : (r * 1000000000 + x) / d < 1000000000 :=
  Nat.div_lt_of_lt_mul (by have := total_lt hr hx; omega)

theorem bd_set' {S : List Nat} (h : Bd S) {k v : Nat} (hv : v < 1000000000) : Bd (S.set k v) := by
  intro j
  by_cases e : k = j
  · subst e
    by_cases hk : k < S.length
    · rw [lat_set_same hk]; exact hv
    · rw [lat_ge (by simp; omega)]; omega
  · rw [lat_set_other e]; exact h j

theorem DvI.step {d n : Nat} {S : List Nat × Nat} (h : DvI d n S) {x : Nat × Nat} (hx : x.2 < 1000000000) : DvI d n (stepV d S x) :=
  ⟨by simp [stepV, h.len], Nat.mod_lt _ (by have := h.lt; omega), bd_set' h.bd (quot_lt h.lt hx)⟩

theorem foldV_inv {d n : Nat} (hd : 0 < d) (l : List (Nat × Nat)) (hl : ∀ x ∈ l, x.2 < 1000000000) : DvI d n (foldV d n l) := by
  have : ∀ (l : List (Nat × Nat)) (S : List Nat × Nat), DvI d n S → (∀ x ∈ l, x.2 < 1000000000) → DvI d n (l.foldl (stepV d) S) := by
    intro l
    induction l with
    | nil => intro S h _; exact h
    | cons x l ih => intro S h hl; exact ih _ (h.step (hl x (by simp))) (fun y hy => hl y (by simp [hy]))
  exact this l _ ⟨by simp, hd, fun j => by rw [lat_rep0]; omega⟩ hl

theorem mem_backP' {L : List Nat} {k : Nat} {x : Nat × Nat} (h : x ∈ backP L k) : x.2 = lat L x.1 := by
  simp only [backP, List.mem_map, List.mem_range] at h
  obtain ⟨t, _, rfl⟩ := h
  rfl

theorem div_back {d : Nat} {L : List Nat} (hd : 0 < d) (bd : Bd L) {k : Nat} (hk : k ≤ L.length) :
    hv L k = d * hv (foldV d L.length (backP L k)).1 k + (foldV d L.length (backP L k)).2 := by
  induction k with
  | zero => simp [hv, vt, backP, foldV]
  | succ k ih =>
    have h := ih (by omega)
    have inv := foldV_inv (n := L.length) hd (backP L k) (fun x hx => by rw [mem_backP' hx]; exact bd _)
    rw [backP_succ, foldV_snoc, hv_succ hk]
    generalize foldV d L.length (backP L k) = S at h inv
    have hq : hv (stepV d S (L.length - 1 - k, lat L (L.length - 1 - k))).1 (k + 1) = hv S.1 k * 1000000000 + (S.2 * 1000000000 + lat L (L.length - 1 - k)) / d := by
      rw [hv_succ (by simp [stepV, inv.len]; exact hk)]
      have e1 : (stepV d S (L.length - 1 - k, lat L (L.length - 1 - k))).1.length = L.length := by simp [stepV, inv.len]
      have eA : hv (stepV d S (L.length - 1 - k, lat L (L.length - 1 - k))).1 k = hv S.1 k := by
        rw [hv, hv, e1, inv.len]
        apply vt_congr
        intro j hj
        exact lat_set_other (by omega)
      have eB : lat (stepV d S (L.length - 1 - k, lat L (L.length - 1 - k))).1 (L.length - 1 - k) = (S.2 * 1000000000 + lat L (L.length - 1 - k)) / d := lat_set_same (by rw [inv.len]; omega)
      rw [eA, e1, eB]
    rw [hq, h]
    simp only [stepV]
    have := Nat.div_add_mod (S.2 * 1000000000 + lat L (L.length - 1 - k)) d
    rw [Nat.mul_add, ← Nat.mul_assoc]
    generalize hA : d * hv S.1 k = A
    rw [Nat.add_mul]
    omega

theorem div_fin {d : Nat} {L : List Nat} (hd : 0 < d) (bd : Bd L) : val (foldV d L.length (backP L L.length)).1 = val L / d ∧ (foldV d L.length (backP L L.length)).2 = val L % d := by
  have h := div_back hd bd (Nat.le_refl _)
  have inv := foldV_inv (n := L.length) hd (backP L L.length) (fun x hx => by rw [mem_backP' hx]; exact bd _)
  rw [hv_all] at h
  have e : hv (foldV d L.length (backP L L.length)).1 L.length = val (foldV d L.length (backP L L.length)).1 := by
    have := hv_all (foldV d L.length (backP L L.length)).1
    rw [inv.len] at this; exact this
  rw [e] at h
  have hlt := inv.lt
  refine ⟨?_, ?_⟩
  · rw [h, Nat.mul_add_div hd, Nat.div_eq_of_lt hlt, Nat.add_zero]
  · rw [h, Nat.mul_add_mod, Nat.mod_eq_of_lt hlt]
end Go.Proofs.YtgcalhnfoakggaaGreatDoor
