/- A row of limbs that a call made itself: block g of the heap, known whole. -/
import Derived.Test.YtifccjchpciicaaGreatDoorMath
import Derived.Laws.CopyOwn
import Derived.Lib.ItoaMem
namespace Go.Proofs.YtifccjchpciicaaGreatDoor
open Go.RowKit

def mapv (L : List Nat) : List Value := L.map fun n : Nat => Value.int .u32 (n : Int)
theorem mapv_length (L : List Nat) : (mapv L).length = L.length := by simp [mapv]
theorem mapv_get {L : List Nat} {j : Nat} (h : j < L.length) : (mapv L)[j]? = some (.int .u32 (lat L j : Nat)) := by simp [mapv, lat, h]
/-- Block g holds just the limbs L. -/
def Row (W : World) (g : Nat) (L : List Nat) : Prop := W.heap[g]? = some (.cells (mapv L).toArray 86 (0, 0))

theorem Row.lt {W : World} {g : Nat} {L : List Nat} (h : Row W g L) : g < W.heap.size := (Array.getElem?_eq_some_iff.1 h).1
theorem Row.cell {W : World} {g : Nat} {L : List Nat} (h : Row W g L) {j : Nat} (hj : j < L.length) : W.cell? ⟨g, j, none⟩ = some (.int .u32 (lat L j : Nat)) := by
  simp only [World.cell?, show W.heap[g]? = _ from h]
  simpa using mapv_get hj
theorem Row.frozen {W : World} {g : Nat} {L : List Nat} (h : Row W g L) (j : Nat) : W.frozen? ⟨g, j, none⟩ = false := by
  simp [World.frozen?, show W.heap[g]? = _ from h]
theorem Row.set {W : World} {g : Nat} {L : List Nat} (h : Row W g L) (j v : Nat) : Row (W.setCell ⟨g, j, none⟩ (.int .u32 (v : Int))) g (L.set j v) := by
  obtain ⟨hlt, hk⟩ := Array.getElem?_eq_some_iff.1 h
  show (W.heap.modify g _)[g]? = _
  rw [Array.getElem?_eq_getElem (by rw [Array.size_modify]; exact hlt), Array.getElem_modify_self, hk]
  simp [mapv, List.map_set]
theorem Row.setI {W : World} {g : Nat} {L : List Nat} (h : Row W g L) (j : Nat) {x : Int} (v : Nat) (e : x = (v : Int)) : Row (W.setCell ⟨g, j, none⟩ (.int .u32 x)) g (L.set j v) := by subst e; exact h.set j v
theorem Row.kept {W W' : World} {g : Nat} {L : List Nat} (h : Row W g L) (e : W'.heap[g]? = W.heap[g]?) : Row W' g L := e.trans h
theorem Row.below {W W' : World} {g : Nat} {L : List Nat} (h : Row W g L) (hb : Below W.heap.size W W') : Row W' g L := h.kept (hb.block g h.lt)
theorem Row.lm {W : World} {g : Nat} {L : List Nat} (h : Row W g L) {cap : Nat} (hc : L.length ≤ cap) : Lm W (.slice (some ⟨g, 0, none⟩) L.length cap) L :=
  .inr ⟨g, 0, cap, rfl, hc, h.lt, fun j hj => by rw [Nat.zero_add]; exact h.cell hj⟩

theorem lat_set_same {L : List Nat} {j v : Nat} (h : j < L.length) : lat (L.set j v) j = v := by simp [lat, h]
theorem lat_set_other {L : List Nat} {j k v : Nat} (h : j ≠ k) : lat (L.set j v) k = lat L k := by simp [lat, List.getElem?_set_ne h]

theorem info31 : (Tryz.prog.info? 86).map (fun i => (i.zero, i.size, i.bytes)) = some (some (.int .u32 0), 1, 4) := by kernel_rfl
theorem size31 : (Tryz.prog.info? 86).map (·.size) = some 1 := by kernel_rfl

theorem made_eq (n : Nat) : (madeCells #[Value.int .u32 0] n).toList = mapv (List.replicate n 0) := by
  apply List.ext_getElem
  · simp [madeCells, mapv]
  · intro i h1 h2; simp [madeCells, mapv, Nat.mod_one]

theorem make_limbs {w : World} {ops : Array Oper} {rest : List Oper} {o : Oper} {a : Act} {Q : Exit → Act → World → Prop} (hg : o.guard = none) (l c : Operand) (hop : o.op = Op.makeSlice 82 l c) (C : Int) (n : Nat)
    (hl : a.eval l = .int .i64 C) (hc : a.eval c = .int .i64 C) (hC : C = (n : Int)) (hn : n ≤ 100000)
    (hK : ∀ w', Hid (Row w' w.heap.size (List.replicate n 0)) → Below w.heap.size w w' → w.heap.size < w'.heap.size → wpList Tryz.prog ops Q rest (a.put o.dst (.slice (some ⟨w.heap.size, 0, none⟩) n n)) w') :
    wpList Tryz.prog ops Q (o :: rest) a w := by
  obtain ⟨i0, hi, hz0, hz1, hz2⟩ := info_parts info31
  refine wpList_make_full w hg l c 82 hop w.heap.size 86 i0 (.int .u32 0) 1 Tryz.underlying82 hi hz0 hz1 .i64 .i64 C C n hl hc hC hC (by rw [hz2]; omega) (by unfold maxLen; omega) (Nat.le_refl _) ?_
  intro w' hown hgr
  have hrow : Row w' w.heap.size (List.replicate n 0) := by
    rcases hown.2 with ⟨e, _⟩ | ⟨g, cap, cur, e, _, hh, _, _, hs, ht⟩
    · cases e
    · cases e
      rw [show (Value.int IntKind.u32 0).cells = #[.int .u32 0] from rfl, Nat.mul_one, made_eq] at ht
      rw [List.take_of_length_le (by simp [hs])] at ht
      rw [Row, hh, ← ht]
  exact hK w' hrow ((Below.refl _ _).grown hgr (Nat.le_refl _) (fun k e => by cases e)) hrow.lt

theorem splice_mapv (S L : List Nat) : splice (mapv S) 0 (mapv L) = mapv (L ++ S.drop L.length) := by simp [splice, mapv]

theorem copy_limbs {w : World} {ops : Array Oper} {rest : List Oper} {o : Oper} {a : Act} {Q : Exit → Act → World → Prop} (hg : o.guard = none) (d s : Operand)
    (ho : o.op = .call { callee := .builtin .copy, args := #[d, s], argTypes := #[82, 82] }) (g cap : Nat) (S L : List Nat) (vx : Value) (n : Nat) (hn : n = S.length)
    (hd : a.eval d = .slice (some ⟨g, 0, none⟩) n cap) (hs : a.eval s = vx) (hx : Lm w vx L) (hrow : Row w g S) (hle : L.length ≤ S.length) (B : Nat) (w0 : World) (hb : Below B w0 w) (hBg : B ≤ g)
    (h : ∀ w', Hid (Row w' g (L ++ S.drop L.length)) → Below B w0 w' → wpList Tryz.prog ops Q rest (a.put o.dst (goInt L.length)) w') : wpList Tryz.prog ops Q (o :: rest) a w := by
  subst hn
  have key : ∀ (sp : Option Addr) (sCap : Nat), vx = .slice sp L.length sCap → (0 < L.length → ∃ ad, sp = some ad ∧ ∀ j v, (mapv L)[j]? = some v → w.cell? (ad.add j) = some v) → wpList Tryz.prog ops Q (o :: rest) a w := by
    intro sp sCap e hsrc
    refine wpList_copy_splice hg d s 82 82 ho 86 Tryz.underlying82 size31 (some ⟨g, 0, none⟩) sp S.length cap L.length sCap hd (by rw [hs, e]) g 0 (mapv S) 86 hrow (mapv L) (by rw [mapv_length]; exact (Nat.min_eq_left hle).symm) (fun hp => ⟨rfl, hsrc (by simpa [mapv] using hp)⟩) (by simpa [mapv] using hle) (by intro v hv; simp only [mapv, List.mem_map] at hv; obtain ⟨n, _, rfl⟩ := hv; rfl) B w0 hb hBg ?_
    intro w' hr hbb
    have hr' := hr.out
    rw [splice_mapv] at hr'
    rw [mapv_length]
    exact h w' hr' hbb
  rcases hx with ⟨rfl, rfl⟩ | ⟨b, off, cap', rfl, _, _, hc⟩
  · exact key none 0 rfl (fun h => by simp at h)
  · refine key (some ⟨b, off, none⟩) cap' rfl (fun _ => ⟨_, rfl, fun j v hv => ?_⟩)
    have hj : j < L.length := by have := (List.getElem?_eq_some_iff.1 hv).1; rwa [mapv_length] at this
    rw [mapv_get hj] at hv
    cases hv
    rw [Lib.add_plain]
    exact hc j hj
end Go.Proofs.YtifccjchpciicaaGreatDoor
