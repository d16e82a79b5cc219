/- Clones: lists that lie in blocks of their own; trees that are cut twice. -/
import Derived.Test.YtomociaidccfmaaGreatDoorTO
namespace Go.Proofs.YtomociaidccfmaaGreatDoor
open Go.RowKit

/-- The cells of nodes whose lists lie each at the beginning of a block of its own, from a block on. -/
def CkL (base : Nat) (W : World) : Fo → List Value → Prop
  | .nil, xs => xs = []
  | .cons h k r, xs => ∃ v ys, xs = (h.cells v).toList ++ ys ∧ h.u < 18446744073709551616 ∧ ((∃ A c, v = .slice A 0 c ∧ k = .nil) ∨ ∃ b cs, v = .slice (some ⟨b, 0, none⟩) k.len k.len ∧ k.len < 9223372036854775808 ∧ base ≤ b ∧ W.heap[b]? = some (.cells cs 27 (0, 0)) ∧ CkL base W k cs.toList) ∧ CkL base W r ys
def Ck (base : Nat) (W : World) (v : Value) (k : Fo) : Prop := (∃ A c, v = .slice A 0 c ∧ k = .nil) ∨ ∃ b cs, v = .slice (some ⟨b, 0, none⟩) k.len k.len ∧ k.len < 9223372036854775808 ∧ base ≤ b ∧ W.heap[b]? = some (.cells cs 27 (0, 0)) ∧ CkL base W k cs.toList
theorem CkL.rw {base : Nat} {W : World} : ∀ {f : Fo} {xs : List Value}, CkL base W f xs → Rw (fun b => base ≤ b) W f xs
  | .nil, _, h => h
  | .cons _ _ _, _, ⟨v, ys, h1, h2, h3, h4⟩ => ⟨v, ys, h1, h3.imp id fun ⟨b, cs, e1, e2, e3, e4, e5⟩ => ⟨b, 0, _, e1, Nat.le_refl _, e2, (Array.getElem?_eq_some_iff.1 e4).1, e3, lies_of_row e4 (CkL.rw e5) (fun i v hi => by rw [Nat.zero_add, ← Array.getElem?_toList]; exact hi)⟩, h2, CkL.rw h4⟩
theorem Ck.kd {base : Nat} {W : World} {v : Value} {k : Fo} (h : Ck base W v k) : Kd (fun b => base ≤ b) W v k :=
  h.imp id fun ⟨b, cs, e1, e2, e3, e4, e5⟩ => ⟨b, 0, _, e1, Nat.le_refl _, e2, (Array.getElem?_eq_some_iff.1 e4).1, e3, lies_of_row e4 (CkL.rw e5) (fun i v hi => by rw [Nat.zero_add, ← Array.getElem?_toList]; exact hi)⟩
theorem CkL.kept {base : Nat} {W W' : World} (hb : ∀ b, base ≤ b → b < W.heap.size → W'.heap[b]? = W.heap[b]?) : ∀ {f : Fo} {xs : List Value}, CkL base W f xs → CkL base W' f xs
  | .nil, _, h => h
  | .cons _ _ _, _, ⟨v, ys, h1, h2, h3, h4⟩ => ⟨v, ys, h1, h2, h3.imp id fun ⟨b, cs, e1, e2, e3, e4, e5⟩ => ⟨b, cs, e1, e2, e3, (hb b e3 (Array.getElem?_eq_some_iff.1 e4).1).trans e4, CkL.kept hb e5⟩, CkL.kept hb h4⟩
theorem Ck.kept {base : Nat} {W W' : World} {v : Value} {k : Fo} (h : Ck base W v k) (hb : ∀ b, base ≤ b → b < W.heap.size → W'.heap[b]? = W.heap[b]?) : Ck base W' v k :=
  h.imp id fun ⟨b, cs, e1, e2, e3, e4, e5⟩ => ⟨b, cs, e1, e2, e3, (hb b e3 (Array.getElem?_eq_some_iff.1 e4).1).trans e4, CkL.kept hb e5⟩
theorem CkL.mono {base base' : Nat} {W : World} (hl : base' ≤ base) : ∀ {f : Fo} {xs : List Value}, CkL base W f xs → CkL base' W f xs
  | .nil, _, h => h
  | .cons _ _ _, _, ⟨v, ys, h1, h2, h3, h4⟩ => ⟨v, ys, h1, h2, h3.imp id fun ⟨b, cs, e1, e2, e3, e4, e5⟩ => ⟨b, cs, e1, e2, Nat.le_trans hl e3, e4, CkL.mono hl e5⟩, CkL.mono hl h4⟩
theorem Ck.mono {base base' : Nat} {W : World} (hl : base' ≤ base) {v : Value} {k : Fo} (h : Ck base W v k) : Ck base' W v k :=
  h.imp id fun ⟨b, cs, e1, e2, e3, e4, e5⟩ => ⟨b, cs, e1, e2, Nat.le_trans hl e3, e4, CkL.mono hl e5⟩
theorem Ck.below {base : Nat} {W W' : World} {v : Value} {k : Fo} (h : Ck base W v k) (hb : Below W.heap.size W W') : Ck base W' v k := h.kept fun b _ hl => hb.block b hl
theorem ckl_app {base : Nat} {W : World} : ∀ {f g : Fo} {xs ys : List Value}, CkL base W f xs → CkL base W g ys → CkL base W (f.app g) (xs ++ ys)
  | .nil, _, _, _, h, h2 => by cases h; exact h2
  | .cons _ _ _, _, _, _, ⟨v, zs, h1, h2, h3, h4⟩, hg => ⟨v, zs ++ _, by rw [h1, List.append_assoc], h2, h3, ckl_app h4 hg⟩
theorem CkL.length {base : Nat} {W : World} {f : Fo} {xs : List Value} (h : CkL base W f xs) : xs.length = f.len * 9 := h.rw.length

/-- The nine cells of a node in a block. -/
def At9 (cs : Array Value) (o : Nat) (h : Hd) (v : Value) : Prop := ∀ (x : Nat) u, (h.cells v)[x]? = some u → cs[o + x]? = some u
/-- A list that may be spoilt: its nodes lie at the beginning of a block of which X is true, so deep. -/
def Sp (X : Nat → Prop) (W : World) : Nat → Value → Prop
  | 0, v => ∃ A c, v = .slice A 0 c
  | d + 1, v => (∃ A c, v = .slice A 0 c) ∨ ∃ b n cs, v = .slice (some ⟨b, 0, none⟩) n n ∧ n < 9223372036854775808 ∧ X b ∧ W.heap[b]? = some (.cells cs 27 (0, 0)) ∧ ∀ i, i < n → ∃ h v', At9 cs (i * 9) h v' ∧ Sp X W d v'
theorem Sp.kept {X : Nat → Prop} {W W' : World} (hb : ∀ b, X b → b < W.heap.size → W'.heap[b]? = W.heap[b]?) : ∀ {d : Nat} {v : Value}, Sp X W d v → Sp X W' d v
  | 0, _, h => h
  | _ + 1, _, h => h.imp id fun ⟨b, n, cs, e1, e2, e3, e4, e5⟩ => ⟨b, n, cs, e1, e2, e3, (hb b e3 (Array.getElem?_eq_some_iff.1 e4).1).trans e4, fun i hi => by
    obtain ⟨h, v', h1, h2⟩ := e5 i hi
    exact ⟨h, v', h1, h2.kept hb⟩⟩
theorem at9_lt {cs : Array Value} {o : Nat} {h : Hd} {v : Value} (hx : At9 cs o h v) : o + 8 < cs.size := (Array.getElem?_eq_some_iff.1 (hx 8 v rfl)).1
theorem nine_lt {h : Hd} {v u : Value} {x : Nat} (hx : (h.cells v)[x]? = some u) : x < 9 := (Array.getElem?_eq_some_iff.1 hx).1
abbrev set9 (cur : Array Value) (m : Nat) (a0 a1 a2 a3 a4 a5 a6 a7 a8 : Value) : Array Value := ((((((((cur.setIfInBounds (m) a0).setIfInBounds (m + 1) a1).setIfInBounds (m + 2) a2).setIfInBounds (m + 3) a3).setIfInBounds (m + 4) a4).setIfInBounds (m + 5) a5).setIfInBounds (m + 6) a6).setIfInBounds (m + 7) a7).setIfInBounds (m + 8) a8
theorem at9_other {cs : Array Value} {i j : Nat} {h : Hd} {v : Value} (hx : At9 cs (i * 9) h v) (hij : i ≠ j) (a0 a1 a2 a3 a4 a5 a6 a7 a8 : Value) : At9 (set9 cs (j * 9) a0 a1 a2 a3 a4 a5 a6 a7 a8) (i * 9) h v := fun x u hu => by
  have := nine_lt hu
  have h1 := hx x u hu
  simp only [set9]
  iterate 9 rw [Array.getElem?_setIfInBounds_ne (by omega)]
  exact h1
theorem at9_same {cs : Array Value} {m : Nat} (hl : m + 8 < cs.size) (h : Hd) (v : Value) : At9 (set9 cs m (.int .i64 h.kind) (.bool h.b) (.bool h.neg) (.string h.dig) (.int .i64 h.exp) (.int .u64 (h.u : Int)) (.int .i64 h.w) (.string h.s) v) m h v := fun x u hu => by
  have hx := nine_lt hu
  have : x = 0 ∨ x = 1 ∨ x = 2 ∨ x = 3 ∨ x = 4 ∨ x = 5 ∨ x = 6 ∨ x = 7 ∨ x = 8 := by omega
  simp only [set9]
  rcases this with rfl | rfl | rfl | rfl | rfl | rfl | rfl | rfl | rfl <;> (cases hu; simp [Array.getElem?_setIfInBounds]; exact ⟨by omega, rfl⟩)
theorem Sp.set {X : Nat → Prop} {b j : Nat} {W W' : World} {cs : Array Value} {h : Hd} (hb : W.heap[b]? = some (.cells cs 27 (0, 0)))
    (hs : W'.heap[b]? = some (.cells (set9 cs (j * 9) (.int .i64 h.kind) (.bool h.b) (.bool h.neg) (.string h.dig) (.int .i64 h.exp) (.int .u64 (h.u : Int)) (.int .i64 h.w) (.string h.s) (.slice none 0 0)) 27 (0, 0))) (ho : ∀ b', b' ≠ b → W'.heap[b']? = W.heap[b']?) :
    ∀ {d : Nat} {v : Value}, Sp X W d v → Sp X W' d v
  | 0, _, e => e
  | d + 1, _, e => e.imp id fun ⟨b', n, cs', e1, e2, e3, e4, e5⟩ => by
    by_cases hbb : b' = b
    · subst hbb
      rw [hb] at e4
      cases e4
      refine ⟨_, n, _, e1, e2, e3, hs, fun i hi => ?_⟩
      obtain ⟨h', v', h1, h2⟩ := e5 i hi
      by_cases hij : i = j
      · subst hij
        exact ⟨h, _, at9_same (at9_lt h1) h _, by cases d with
          | zero => exact ⟨_, _, rfl⟩
          | succ d => exact .inl ⟨_, _, rfl⟩⟩
      · exact ⟨h', v', at9_other h1 hij _ _ _ _ _ _ _ _ _, h2.set hb hs ho⟩
    · refine ⟨b', n, cs', e1, e2, e3, (ho b' hbb).trans e4, fun i hi => ?_⟩
      obtain ⟨h', v', h1, h2⟩ := e5 i hi
      exact ⟨h', v', h1, h2.set hb hs ho⟩
theorem ck_nil {base : Nat} {W : World} {v : Value} {k : Fo} (h : Ck base W v k) (hk : k.len = 0) : ∃ A c, v = .slice A 0 c := by
  rcases h with ⟨A, c, h1, _⟩ | ⟨b, cs, h1, _⟩
  · exact ⟨A, c, h1⟩
  · exact ⟨_, _, by rw [h1, hk]⟩
theorem ckl_sp {base : Nat} {W : World} : ∀ {f : Fo} {xs : List Value} {D : Nat}, CkL base W f xs → f.deep ≤ D + 1 → ∀ i, i < f.len → ∃ (h : Hd) (v' : Value), (∀ (x : Nat) u, (h.cells v')[x]? = some u → xs[i * 9 + x]? = some u) ∧ Sp (fun b => base ≤ b ∧ b < W.heap.size) W D v'
  | .nil, _, _, _, _, _, hi => absurd hi (Nat.not_lt_zero _)
  | .cons h k r, _, D, ⟨v, ys, h1, h2, h3, h4⟩, hd, i, hi => by
    simp only [Fo.deep] at hd
    subst h1
    cases i with
    | zero =>
      refine ⟨h, v, fun x u hu => ?_, ?_⟩
      · have := nine_lt hu
        rw [Nat.zero_mul, Nat.zero_add, List.getElem?_append_left (by simpa [Hd.cells] using this), Array.getElem?_toList]
        exact hu
      · by_cases hk : k.len = 0
        · obtain ⟨A, c, e⟩ := ck_nil (base := base) (W := W) (v := v) h3 hk
          cases D with
          | zero => exact ⟨A, c, e⟩
          | succ D => exact .inl ⟨A, c, e⟩
        · obtain ⟨D', rfl⟩ : ∃ D', D = D' + 1 := ⟨D - 1, by
            have : 0 < k.deep := by
              cases k with
              | nil => exact absurd rfl hk
              | cons _ _ _ => simp only [Fo.deep]; omega
            omega⟩
          rcases h3 with ⟨A, c, e1, _⟩ | ⟨b, cs, e1, e2, e3, e4, e5⟩
          · exact .inl ⟨A, c, e1⟩
          · refine .inr ⟨b, k.len, cs, e1, e2, ⟨e3, (Array.getElem?_eq_some_iff.1 e4).1⟩, e4, fun i hi => ?_⟩
            obtain ⟨h', v', q1, q2⟩ := ckl_sp (D := D') e5 (by omega) i hi
            exact ⟨h', v', fun x u hu => by rw [← Array.getElem?_toList]; exact q1 x u hu, q2⟩
    | succ i =>
      obtain ⟨h', v', q1, q2⟩ := ckl_sp (D := D) h4 (by omega) i (by simp only [Fo.len] at hi; omega)
      refine ⟨h', v', fun x u hu => ?_, q2⟩
      have := q1 x u hu
      rw [List.getElem?_append_right (by simp [Hd.cells]; omega)]
      rw [show (i + 1) * 9 + x - (h.cells v).toList.length = i * 9 + x by simp [Hd.cells]; omega]
      exact this
theorem Ck.sp {base : Nat} {W : World} {v : Value} {k : Fo} (h : Ck base W v k) : Sp (fun b => base ≤ b ∧ b < W.heap.size) W k.deep v := by
  by_cases hk : k.len = 0
  · obtain ⟨A, c, e⟩ := ck_nil h hk
    cases k.deep with
    | zero => exact ⟨A, c, e⟩
    | succ D => exact .inl ⟨A, c, e⟩
  · obtain ⟨D, hD⟩ : ∃ D, k.deep = D + 1 := ⟨k.deep - 1, by
      have : 0 < k.deep := by
        cases k with
        | nil => exact absurd rfl hk
        | cons _ _ _ => simp only [Fo.deep]; omega
      omega⟩
    rw [hD]
    rcases h with ⟨A, c, e1, _⟩ | ⟨b, cs, e1, e2, e3, e4, e5⟩
    · exact .inl ⟨A, c, e1⟩
    · refine .inr ⟨b, k.len, cs, e1, e2, ⟨e3, (Array.getElem?_eq_some_iff.1 e4).1⟩, e4, fun i hi => ?_⟩
      obtain ⟨h', v', q1, q2⟩ := ckl_sp (D := D) e5 (by omega) i hi
      exact ⟨h', v', fun x u hu => by rw [← Array.getElem?_toList]; exact q1 x u hu, q2⟩

theorem list9 {l : List Value} (h : 9 ≤ l.length) : ∃ z0 z1 z2 z3 z4 z5 z6 z7 z8 rest, l = [z0, z1, z2, z3, z4, z5, z6, z7, z8] ++ rest := by
  match l, h with
  | z0 :: z1 :: z2 :: z3 :: z4 :: z5 :: z6 :: z7 :: z8 :: rest, _ => exact ⟨z0, z1, z2, z3, z4, z5, z6, z7, z8, rest, rfl⟩
theorem take_set9 {cur : Array Value} {j n : Nat} {xs : List Value} (hs : cur.size = n * 9) (hj : j < n) (ht : cur.toList.take (j * 9) = xs) (h : Hd) (v : Value) :
    (set9 cur (j * 9) (.int .i64 h.kind) (.bool h.b) (.bool h.neg) (.string h.dig) (.int .i64 h.exp) (.int .u64 (h.u : Int)) (.int .i64 h.w) (.string h.s) v).toList.take ((j + 1) * 9) = xs ++ (h.cells v).toList := by
  have hl : xs.length = j * 9 := by rw [← ht, List.length_take]; simp [hs]; omega
  obtain ⟨z0, z1, z2, z3, z4, z5, z6, z7, z8, rest, hr⟩ := list9 (l := cur.toList.drop (j * 9)) (by rw [List.length_drop]; simp [hs]; omega)
  have hc : cur.toList = xs ++ ([z0, z1, z2, z3, z4, z5, z6, z7, z8] ++ rest) := by rw [← hr, ← ht, List.take_append_drop]
  simp only [set9, Array.toList_setIfInBounds]
  rw [hc, set9_list hl]
  rw [← List.append_assoc, List.take_append_of_le_length (by simp [hl]; omega), List.take_of_length_le (by simp [hl]; omega)]
  rfl
theorem row_cells {W : World} {L m : Nat} {cur : Array Value} {T : TypeId} (h : W.heap[L]? = some (.cells cur T (0, 0))) (hm : m + 8 < cur.size) :
    ∃ a0 a1 a2 a3 a4 a5 a6 a7 a8, W.cell? ⟨L, m, none⟩ = some a0 ∧ W.cell? ⟨L, m + 1, none⟩ = some a1 ∧ W.cell? ⟨L, m + 2, none⟩ = some a2 ∧ W.cell? ⟨L, m + 3, none⟩ = some a3 ∧ W.cell? ⟨L, m + 4, none⟩ = some a4 ∧ W.cell? ⟨L, m + 5, none⟩ = some a5 ∧ W.cell? ⟨L, m + 6, none⟩ = some a6 ∧ W.cell? ⟨L, m + 7, none⟩ = some a7 ∧ W.cell? ⟨L, m + 8, none⟩ = some a8 := by
  have q : ∀ i, m + i < cur.size → ∃ a, W.cell? ⟨L, m + i, none⟩ = some a := fun i hi => ⟨cur[m + i], by simp [World.cell?, h, Array.getElem?_eq_getElem hi]⟩
  obtain ⟨a0, e0⟩ := q 0 (by omega)
  obtain ⟨a1, e1⟩ := q 1 (by omega)
  obtain ⟨a2, e2⟩ := q 2 (by omega)
  obtain ⟨a3, e3⟩ := q 3 (by omega)
  obtain ⟨a4, e4⟩ := q 4 (by omega)
  obtain ⟨a5, e5⟩ := q 5 (by omega)
  obtain ⟨a6, e6⟩ := q 6 (by omega)
  obtain ⟨a7, e7⟩ := q 7 (by omega)
  obtain ⟨a8, e8⟩ := q 8 (by omega)
  exact ⟨a0, a1, a2, a3, a4, a5, a6, a7, a8, e0, e1, e2, e3, e4, e5, e6, e7, e8⟩
theorem len_nil {k : Fo} (h : k.len = 0) : k = .nil := by
  cases k with
  | nil => rfl
  | cons _ _ _ => simp only [Fo.len] at h; omega
theorem allG_at2 {G : Hd → Fo → Prop} {j : Nat} {f : Fo} {h : Hd} {k r : Fo} (hf : AllG G f) (e : f.drop j = .cons h k r) : G h k ∧ AllG G k := by
  have := allG_drop j hf
  rw [e] at this
  exact ⟨this.1, this.2.1⟩
end Go.Proofs.YtomociaidccfmaaGreatDoor
