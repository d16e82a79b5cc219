/- The laws' own: shown. -/
import Derived.Test.YtallgamfjbkdgaaGreatDoorA2
namespace Go.Proofs.YtallgamfjbkdgaaGreatDoor
open Go.RowKit

def sA : Hd := ⟨5, false, false, ⟨#[]⟩, 0, 0, 0, ⟨#[97]⟩⟩
def sB : Hd := ⟨5, false, false, ⟨#[]⟩, 0, 0, 0, ⟨#[98]⟩⟩
def sN : Hd := ⟨3, false, false, ⟨#[49, 53]⟩, -1, 0, 0, ⟨#[]⟩⟩
def sL : Hd := ⟨7, false, false, ⟨#[]⟩, 0, 0, 0, ⟨#[]⟩⟩
def sM : Hd := ⟨8, false, false, ⟨#[]⟩, 0, 0, 0, ⟨#[]⟩⟩
def sY : Hd := ⟨6, false, false, ⟨#[]⟩, 0, 0, 0, ⟨#[]⟩⟩
def sK : Fo := .cons sA .nil (.cons sN .nil (.cons sB .nil (.cons sL .nil .nil)))
theorem chk_sM : chk 1 sM sK = 0 := by decide +kernel
theorem chk_sY : chk 1 sY .nil = 61 := by decide +kernel
theorem doc_sM : docB layP sM sK = ⟨#[123, 34, 97, 34, 58, 49, 46, 53, 44, 34, 98, 34, 58, 91, 93, 125]⟩ := by
  rw [docB, if_pos chk_sM]
  apply str_inj
  rw [node_list]
  decide +kernel
theorem doc_sY : docB layP sY .nil = ⟨#[]⟩ := by rw [docB, if_neg (by rw [chk_sY]; decide)]
theorem sK_gl : AllG Gl (.cons sM sK .nil) := by
  simp [AllG, Gl, sK, Fo.len]
theorem row4_kd {W0 : World} {B1 : Nat} (h1 : Bx W0 B1 (sA.cells (.slice none 0 0) ++ (sN.cells (.slice none 0 0) ++ (sB.cells (.slice none 0 0) ++ sL.cells (.slice none 0 0)))) 27) : Kd An W0 (.slice (some ⟨B1, 0, none⟩) 4 4) sK := by
  have c : ∀ (j i : Nat) (u : Value), j ≤ 3 → (([sA, sN, sB, sL][j]?.getD sA).cells (.slice none 0 0))[i]? = some u → W0.cell? ⟨B1, 0 + j * 9 + i, none⟩ = some u := by
    intro j i u hj hi
    have hi9 : i < 9 := (Array.getElem?_eq_some_iff.1 hi).1
    refine Bx.c h1 _ ?_
    have s9 : ∀ h : Hd, (h.cells (.slice none 0 0)).size = 9 := fun _ => rfl
    match j, hj, hi with
    | 0, _, hi => rw [Array.getElem?_append_left (by rw [s9]; omega)]; rw [show 0 + 0 * 9 + i = i by omega]; exact hi
    | 1, _, hi => rw [Array.getElem?_append_right (by rw [s9]; omega), s9, Array.getElem?_append_left (by rw [s9]; omega), show 0 + 1 * 9 + i - 9 = i by omega]; exact hi
    | 2, _, hi => rw [Array.getElem?_append_right (by rw [s9]; omega), s9, Array.getElem?_append_right (by rw [s9]; omega), s9, Array.getElem?_append_left (by rw [s9]; omega), show 0 + 2 * 9 + i - 9 - 9 = i by omega]; exact hi
    | 3, _, hi => rw [Array.getElem?_append_right (by rw [s9]; omega), s9, Array.getElem?_append_right (by rw [s9]; omega), s9, Array.getElem?_append_right (by rw [s9]; omega), s9, show 0 + 3 * 9 + i - 9 - 9 - 9 = i by omega]; exact hi
  refine .inr ⟨B1, 0, 4, rfl, Nat.le_refl _, by decide, h1.lt, trivial, ?_⟩
  refine lies_cons.2 ⟨⟨.slice none 0 0, fun i u hi => c 0 i u (by omega) hi, .inl ⟨_, _, rfl, rfl⟩⟩, by decide, ?_⟩
  refine lies_cons.2 ⟨⟨.slice none 0 0, fun i u hi => c 1 i u (by omega) hi, .inl ⟨_, _, rfl, rfl⟩⟩, by decide, ?_⟩
  refine lies_cons.2 ⟨⟨.slice none 0 0, fun i u hi => c 2 i u (by omega) hi, .inl ⟨_, _, rfl, rfl⟩⟩, by decide, ?_⟩
  exact lies_cons.2 ⟨⟨.slice none 0 0, fun i u hi => c 3 i u (by omega) hi, .inl ⟨_, _, rfl, rfl⟩⟩, by decide, trivial⟩
set_option maxRecDepth 100000 in
set_option maxHeartbeats 1000000 in
theorem jshown_calls (w : World) (hT : Tj w) : Calls Tryz.prog 7 #[] w (BolP true w) := by
  have HT := Lib.hid hT
  clear hT
  go_enter Tryz.func7, Tryz.ntmps7
  go_wp2_with fail
  obtain ⟨W0, hW0⟩ : ∃ W0, W0 = (w.alloc (.cells #[.int .i64 5, .bool false, .bool false, .string ⟨#[]⟩, .int .i64 0, .int .u64 0, .int .i64 0, .string ⟨#[97]⟩, .slice none 0 0, .int .i64 3, .bool false, .bool false, .string ⟨#[49, 53]⟩, .int .i64 (-1), .int .u64 0, .int .i64 0, .string ⟨#[]⟩, .slice none 0 0, .int .i64 5, .bool false, .bool false, .string ⟨#[]⟩, .int .i64 0, .int .u64 0, .int .i64 0, .string ⟨#[98]⟩, .slice none 0 0, .int .i64 7, .bool false, .bool false, .string ⟨#[]⟩, .int .i64 0, .int .u64 0, .int .i64 0, .string ⟨#[]⟩, .slice none 0 0] 27)).alloc (.cells #[.int .i64 8, .bool false, .bool false, .string ⟨#[]⟩, .int .i64 0, .int .u64 0, .int .i64 0, .string ⟨#[]⟩, .slice (some ⟨w.heap.size, 0, none⟩) 4 4] 27) := ⟨_, rfl⟩
  rw [← hW0]
  have HX : Hid (Nx W0 (w.heap.size + 1) sM (.slice (some ⟨w.heap.size, 0, none⟩) 4 4)) := Lib.hid (by rw [hW0]; exact Bx.new1 w _ _ _)
  have HKd : Hid (Kd An W0 (.slice (some ⟨w.heap.size, 0, none⟩) 4 4) sK) := Lib.hid (row4_kd (by rw [hW0]; exact (Bx.new w _ _).alloc _))
  have HB : Hid (Below w.heap.size w W0) := Lib.hid (by rw [hW0]; exact below_a (below_a (Below.refl _ w) _) _)
  have HW1 : Hid (Calls Tryz.prog 9 #[.agg (sM.cells (.slice (some ⟨w.heap.size, 0, none⟩) 4 4))] W0 fun o w' => o = .returned (.tuple #[.string ⟨#[123, 34, 97, 34, 58, 49, 46, 53, 44, 34, 98, 34, 58, 91, 93, 125]⟩, .int .i64 0]) ∧ Below W0.heap.size W0 w') := Lib.hid (by
    have := Write_calls sM sK _ W0 (HT.out.below HB.out) HKd.out (by decide) (by decide) sK_gl
    unfold DocP at this
    rwa [doc_sM, chk_sM] at this)
  have HW2 : Hid (∀ W, Below W0.heap.size W0 W → Calls Tryz.prog 9 #[.agg (sY.cells (.slice none 0 0))] W fun o w' => o = .returned (.tuple #[.string ⟨#[]⟩, .int .i64 61]) ∧ Below W.heap.size W w') := Lib.hid (fun W hW => by
    have := Write_calls sY .nil (.slice none 0 0) W ((HT.out.below HB.out).below hW) (.inl ⟨_, _, rfl, rfl⟩) (by decide) (by decide) (by simp [AllG, Gl, Fo.len])
    unfold DocP at this
    rwa [doc_sY, chk_sY] at this)
  clear hW0 HKd
  refine HW1.out.mono ?_
  rintro o w1 ⟨rfl, hb1⟩
  have HB1 := Lib.hid hb1
  clear hb1
  go_wp2_with fail
  refine (HW2.out _ HB1.out).mono ?_
  rintro o w2 ⟨rfl, hb2⟩
  have HB2 := Lib.hid (below_nx HB1.out hb2)
  clear hb2
  go_wp2
  go_ret
  exact ⟨rfl, below_nx HB.out HB2.out⟩
end Go.Proofs.YtallgamfjbkdgaaGreatDoor
