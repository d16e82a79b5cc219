/- The laws' own: shown. The laws' own: Few. The law TreeSums. -/
import Derived.Test.YtppapkpceejnkaaGreatDoorMp
import Derived.Test.YtppapkpceejnkaaGreatDoorT3
import Derived.Shelf.Strings.Repeat

namespace Go.Proofs.YtppapkpceejnkaaGreatDoor
open Go.RowKit
open Go.Lib (decDigits nDigits)

def oneH : Hd := ⟨3, false, false, ⟨#[49]⟩, 0, 0, 0, ⟨#[]⟩⟩
def arrH : Hd := ⟨7, false, false, ⟨#[]⟩, 0, 0, 0, ⟨#[]⟩⟩
def tagH : Hd := ⟨9, false, false, ⟨#[]⟩, 0, 1, 0, ⟨#[]⟩⟩
def arrK : Fo := .cons oneH .nil (.cons oneH .nil .nil)
def tagK : Fo := .cons arrH arrK .nil
theorem right_1 : rightD false [49] 0 = true := by decide
theorem toI_1 : toI false [49] 0 = some (false, 1) := by decide
theorem rgt_shown : rgt tagH tagK = true := by decide +kernel
theorem chk_c : chk 2 tagH tagK = 0 := by decide +kernel
theorem chk_j : chk 1 tagH tagK = 61 := by decide +kernel
theorem shown_gl : AllG Gl (.cons tagH tagK .nil) := by
  simp [AllG, Gl, tagK, arrK, Fo.len]
theorem cnt_shown : wrap64 (1 + (tagK.cnt : Int)) = 4 := by unfold wrap64; decide
theorem shown_kd {W0 : World} {B1 B2 : Nat} (h1 : Bx W0 B1 (oneH.cells (.slice none 0 0) ++ oneH.cells (.slice none 0 0)) 28) (h2 : Nx W0 B2 arrH (.slice (some ⟨B1, 0, none⟩) 2 2)) : Kd An W0 (.slice (some ⟨B2, 0, none⟩) 1 1) tagK := by
  refine .inr ⟨B2, 0, 1, rfl, Nat.le_refl _, by decide, h2.lt, trivial, lies_cons.2 ⟨⟨.slice (some ⟨B1, 0, none⟩) 2 2, ?_, ?_⟩, by decide, trivial⟩⟩
  · intro i u hi
    rw [Nat.zero_add]
    exact Bx.c h2 i hi
  · refine .inr ⟨B1, 0, 2, rfl, Nat.le_refl _, by decide, h1.lt, trivial, lies_cons.2 ⟨⟨.slice none 0 0, ?_, .inl ⟨_, _, rfl, rfl⟩⟩, by decide, lies_cons.2 ⟨⟨.slice none 0 0, ?_, .inl ⟨_, _, rfl, rfl⟩⟩, by decide, trivial⟩⟩⟩
    · intro i u hi
      rw [Nat.zero_add]
      refine Bx.c h1 i ?_
      rw [Array.getElem?_append_left (Array.getElem?_eq_some_iff.1 hi).1]
      exact hi
    · intro i u hi
      refine Bx.c h1 (0 + 9 + i) ?_
      have hs : (oneH.cells (.slice none 0 0)).size = 9 := rfl
      rw [Array.getElem?_append_right (by rw [hs]; omega), hs, show 0 + 9 + i - 9 = i by omega]
      exact hi
end Go.Proofs.YtppapkpceejnkaaGreatDoor

namespace Go.Proofs.YtppapkpceejnkaaGreatDoor
open Go.RowKit

/-- What Few leaves of a list. -/
def fewK (k : Fo) : Fo := if 400 < wrap64 (1 + ((cutK 18 k).cnt : Int)) then .nil else cutK 18 k
def FewP (w : World) (h : Hd) (k : Fo) (o : Ending) (w' : World) : Prop := ∃ v', o = .returned (.agg ((cutH h).cells v')) ∧ Kd (fun b => w.heap.size ≤ b) w' v' (fewK k) ∧ Below w.heap.size w w'
set_option maxRecDepth 100000 in
theorem Few_calls (k : Fo) (h : Hd) (v : Value) (w : World) (hk : Kd An w v k) (hu : h.u < 18446744073709551616) :
    Calls Tryz.prog 23 #[.agg (h.cells v)] w (FewP w h k) := by
  obtain ⟨A, c, rfl, hc, hl, hL⟩ := hk.form
  have HK := Lib.hid hk
  clear hk hL hc hl
  have HB0 := Lib.hid ((Nx.new w h (.slice A k.len c)).alloc (.cells #[.int .i64 0, .bool false, .bool false, .string ⟨#[]⟩, .int .i64 0, .int .u64 0, .int .i64 0, .string ⟨#[]⟩, .slice none 0 0] 28))
  have HZ0 : Hid (Nx ((w.alloc (.cells #[.int .i64 h.kind, .bool h.b, .bool h.neg, .string h.dig, .int .i64 h.exp, .int .u64 (h.u : Int), .int .i64 h.w, .string h.s, .slice A k.len c] 28)).alloc (.cells #[.int .i64 0, .bool false, .bool false, .string ⟨#[]⟩, .int .i64 0, .int .u64 0, .int .i64 0, .string ⟨#[]⟩, .slice none 0 0] 28)) (w.heap.size + 1) zH (.slice none 0 0)) := Lib.hid (by
    have := Nx.new (w.alloc (.cells #[.int .i64 h.kind, .bool h.b, .bool h.neg, .string h.dig, .int .i64 h.exp, .int .u64 (h.u : Int), .int .i64 h.w, .string h.s, .slice A k.len c] 28)) zH (.slice none 0 0)
    rw [World.size_alloc] at this; exact this)
  have HB1 : Hid (Below w.heap.size w ((w.alloc (.cells #[.int .i64 h.kind, .bool h.b, .bool h.neg, .string h.dig, .int .i64 h.exp, .int .u64 (h.u : Int), .int .i64 h.w, .string h.s, .slice A k.len c] 28)).alloc (.cells #[.int .i64 0, .bool false, .bool false, .string ⟨#[]⟩, .int .i64 0, .int .u64 0, .int .i64 0, .string ⟨#[]⟩, .slice none 0 0] 28))) := Lib.hid (below_a (below_a (Below.refl _ _) _) _)
  simp only [Hd.cells]
  go_enter Tryz.func23, Tryz.ntmps23
  go_wp2_with fail
  refine (Cut_calls 18 k h _ _ (by decide) (HK.out.below HB1.out) hu).mono ?_
  rintro e w1 ⟨v1, rfl, hk1, hb1⟩
  obtain ⟨h1, hh1⟩ : ∃ h1 : Hd, h1 = cutH h := ⟨_, rfl⟩
  rw [← hh1]
  have HX := Lib.hid (HB0.out.below hb1)
  have HZ := Lib.hid (HZ0.out.below hb1)
  have HW := Lib.hid (below_nx HB1.out hb1)
  have HS := hb1.size
  simp only [World.size_alloc] at HS
  have HK1 := Lib.hid (hk1.mono (Q := fun b => w.heap.size + 2 ≤ b) fun b h _ => by simpa using h)
  have HH := Lib.hid hh1
  obtain ⟨A1, c1, rfl, _, _, _⟩ := hk1.form
  clear hb1 hk1 hh1 HB0 HZ0 HB1 HK
  simp only [Hd.cells]
  have x := fun i => Bx.f HX.out i
  have x0 := x 0
  have x1 := x 1
  have x2 := x 2
  have x3 := x 3
  have x4 := x 4
  have x5 := x 5
  have x6 := x 6
  have x7 := x 7
  have x8 := x 8
  clear x
  obtain ⟨y0, y1, y2, y3, y4, y5, y6, y7, y8⟩ := HX.out.nine
  go_wp2_with fail
  obtain ⟨W2, hW2⟩ : ∃ W2, W2 = setN w1 w.heap.size h1 (.slice A1 (cutK 18 k).len c1) := ⟨_, rfl⟩
  have HX2 : Hid (Nx W2 w.heap.size h1 (.slice A1 (cutK 18 k).len c1)) := Lib.hid (by rw [hW2]; exact HX.out.setN _ _)
  have HZ2 : Hid (Nx W2 (w.heap.size + 1) zH (.slice none 0 0)) := Lib.hid (by rw [hW2]; exact (setN_other (by omega)).trans HZ.out)
  have HB2 : Hid (Below w.heap.size w W2) := Lib.hid (by rw [hW2]; exact below_setN HW.out (Nat.le_refl _) _ _)
  have HK2 : Hid (Kd (fun b => w.heap.size + 2 ≤ b) W2 (.slice A1 (cutK 18 k).len c1) (cutK 18 k)) := Lib.hid (by
    rw [hW2]
    exact HK1.out.kept (by rw [size_setN]; exact Nat.le_refl _) fun b h _ => setN_other (by have : w.heap.size + 2 ≤ b := h; omega))
  simp only [setN] at hW2
  rw [← hW2]
  refine (rCount_calls (cutK 18 k) h1 _ _ (HK2.out.mono fun _ _ _ => trivial)).mono ?_
  rintro e w3 ⟨rfl, hb3⟩
  obtain ⟨X, hX⟩ : ∃ X, X = wrap64 (1 + ((cutK 18 k).cnt : Int)) := ⟨_, rfl⟩
  rw [← hX]
  have HQ := Lib.hid hX
  have HX3 := Lib.hid (HX2.out.below hb3)
  have HZ3 := Lib.hid (HZ2.out.below hb3)
  have HB3 := Lib.hid (below_nx HB2.out hb3)
  have HK3 := Lib.hid (HK2.out.below hb3)
  have hz := HZ3.out.lt
  clear hW2 hX hb3 HX2 HZ2 HB2 HK2 HX HZ HW HK1 y0 y1 y2 y3 y4 y5 y6 y7 y8 x0 x1 x2 x3 x4 x5 x6 x7 x8
  have x8 := Bx.f HX3.out 8
  obtain ⟨q0, q1, q2, q3, q4, q5, q6, q7, q8⟩ := HX3.out.nine
  obtain ⟨z0, z1, z2, z3, z4, z5, z6, z7, z8⟩ := HZ3.out.nine
  have f0 : ∀ i, w3.frozen? ⟨w.heap.size + 1, i, none⟩ = false := Bx.f HZ3.out
  have y0 := f0 0
  have y1 := f0 1
  have y2 := f0 2
  have y3 := f0 3
  have y4 := f0 4
  have y5 := f0 5
  have y6 := f0 6
  have y7 := f0 7
  have y8 := f0 8
  clear f0
  by_cases hq : 400 < X
  · have HF : Hid (fewK k = .nil) := Lib.hid (by rw [fewK, ← HQ.out, if_pos hq])
    go_wp2_with fail
    refine bodyPost_ret (results_cell_row Tryz.results23 _ _ (w.heap.size + 1) 28 (h1.cells (.slice none 0 0)) (0, 0) _ rfl (Nx.setN (HZ3.out.off (by omega)) _ _) Tryz.underlying28 rfl sizeN) rfl ?_
    exact ⟨_, by rw [← HH.out], by rw [HF.out]; exact .inl ⟨_, _, rfl, rfl⟩, below_setN (HB3.out.setCell (p := ⟨w.heap.size, 8, none⟩) (Nat.le_refl _) _) (by omega) _ _⟩
  · have HF : Hid (fewK k = cutK 18 k) := Lib.hid (by rw [fewK, ← HQ.out, if_neg hq])
    go_wp2_with fail
    refine bodyPost_ret (results_cell_row Tryz.results23 _ _ (w.heap.size + 1) 28 (h1.cells (.slice A1 (cutK 18 k).len c1)) (0, 0) _ rfl (Nx.setN HZ3.out _ _) Tryz.underlying28 rfl sizeN) rfl ?_
    refine ⟨_, by rw [← HH.out], ?_, below_setN HB3.out (by omega) _ _⟩
    rw [HF.out]
    refine (HK3.out.kept (by rw [size_setN]; exact Nat.le_refl _) fun b h _ => setN_other (by have : w.heap.size + 2 ≤ b := h; omega)).mono fun b h _ => ?_
    exact Nat.le_trans (Nat.le_add_right _ 2) h
end Go.Proofs.YtppapkpceejnkaaGreatDoor

namespace Go.Proofs.YtppapkpceejnkaaGreatDoor
open Go.RowKit

theorem cut_deep : ∀ (f : Fo) (D m : Nat), (cutF f D m).deep ≤ max D 1
  | .nil, _, _ => by simp [cutF, Fo.deep]
  | .cons _ k r, D, m => by
    unfold cutF
    split
    · simp [Fo.deep]
    · simp only [Fo.deep]
      have h1 := cut_deep r D (m - 1)
      split
      · simp only [Fo.deep]; omega
      · have h2 := cut_deep k (D - 1) 40
        omega
theorem cut_gl : ∀ (f : Fo) (D m : Nat), AllG Gl (cutF f D m)
  | .nil, _, _ => trivial
  | .cons _ k r, D, m => by
    unfold cutF
    split
    · trivial
    · refine ⟨?_, ?_, cut_gl r D (m - 1)⟩
      · show Fo.len _ < _
        split
        · decide
        · rw [cut_len]; omega
      · split
        · trivial
        · exact cut_gl k (D - 1) 40
theorem few_deep (k : Fo) : (fewK k).deep ≤ 17 := by
  unfold fewK
  split
  · simp [Fo.deep]
  · rw [cutK, if_neg (by decide)]
    exact cut_deep k 17 40
theorem few_gl (k : Fo) : AllG Gl (fewK k) := by
  unfold fewK
  split
  · trivial
  · rw [cutK, if_neg (by decide)]
    exact cut_gl k 17 40
theorem few_len (k : Fo) : (fewK k).len ≤ 40 := by
  unfold fewK
  split
  · exact Nat.zero_le _
  · rw [cutK, if_neg (by decide), cut_len]
    exact Nat.min_le_right _ _
theorem allG_cons {G : Hd → Fo → Prop} {h : Hd} {k r : Fo} (h1 : G h k) (h2 : AllG G k) (h3 : AllG G r) : AllG G (.cons h k r) := ⟨h1, h2, h3⟩
theorem gl_of {h : Hd} {k : Fo} (hk : k.len ≤ 40) : Gl h k := Nat.lt_of_le_of_lt hk (by decide)
theorem few_all (h : Hd) (k : Fo) : AllG Gl (.cons h (fewK k) .nil) := by
  have h1 := few_len k
  have h2 := few_gl k
  generalize fewK k = K at h1 h2
  exact allG_cons (gl_of h1) h2 trivial
theorem deep_app : ∀ (f g : Fo), (f.app g).deep = max f.deep g.deep
  | .nil, g => by simp [Fo.app, Fo.deep]
  | .cons _ k r, g => by simp only [Fo.app, Fo.deep]; rw [deep_app r g]; omega
theorem allG_at {G : Hd → Fo → Prop} {j : Nat} {f : Fo} {h : Hd} {k r : Fo} (hf : AllG G f) (e : f.drop j = .cons h k r) : G h k ∧ AllG G k := by
  have := allG_drop j hf
  rw [e] at this
  exact ⟨this.1, this.2.1⟩
end Go.Proofs.YtppapkpceejnkaaGreatDoor
