/- The writer in memory; what writes to it: copyCheck, WriteString, Write, String. What writes a node's own bytes: heads, nodes that have no bytes besides. What writes a number, a text, bytes. -/
import Derived.Test.YtppapkpceejnkaaGreatDoorK12
import Derived.Lib.Builder
import Derived.Lib.AppendStr
import Derived.Lib.OthersKept
import Derived.Shelf.Strings.Builder1
import Derived.Test.YtppapkpceejnkaaGreatDoorKc
import Derived.Deep.RegionHeld3
import Derived.Test.YtppapkpceejnkaaGreatDoorK14
namespace Go.Proofs.YtppapkpceejnkaaGreatDoor
open Go.RowKit

/-- The parts of the writer in block b. -/
def partsCE (b : Nat) : List MapEntry := [⟨.int .i64 1, .func (.func 107) #[.pointer (some ⟨b, 0, none⟩)] #[], 0⟩, ⟨.int .i64 2, .func (.func 108) #[.pointer (some ⟨b, 0, none⟩)] #[], 1⟩, ⟨.int .i64 3, .func (.func 109) #[.pointer (some ⟨b, 0, none⟩)] #[], 2⟩, ⟨.int .i64 4, .func (.func 110) #[.pointer (some ⟨b, 0, none⟩)] #[], 3⟩, ⟨.int .i64 5, .func (.func 111) #[.pointer (some ⟨b, 0, none⟩)] #[], 4⟩, ⟨.int .i64 6, .func (.func 112) #[.pointer (some ⟨b, 0, none⟩)] #[], 5⟩, ⟨.int .i64 7, .func (.func 113) #[.pointer (some ⟨b, 0, none⟩)] #[], 6⟩, ⟨.int .i64 8, .func (.func 114) #[.pointer (some ⟨b, 0, none⟩)] #[], 7⟩, ⟨.int .i64 9, .func (.func 115) #[.pointer (some ⟨b, 0, none⟩)] #[], 8⟩, ⟨.int .i64 10, .func (.func 116) #[.pointer (some ⟨b, 0, none⟩)] #[], 9⟩]
def partsC (b i : Nat) : Array MapEntry := ((partsCE b).take i).toArray
def wcC (p v M : Value) : Array Value := #[p, v, M]
/-- A writer lies in block b; its bytes are t; nothing that w0 held has turned. -/
structure Wc (w0 : World) (b : Nat) (p v M : Value) (t : ByteArray) (W : World) : Prop where
  hb : w0.heap.size ≤ b
  hw : Below w0.heap.size w0 W
  bx : Bx W b (wcC p v M) 137
  own : W.ownsRow w0.heap.size 5 1 v t.size (Lib.strCells t)
/-- .. whose parts lie in block M. -/
def Wk (w0 : World) (b M : Nat) (t : ByteArray) (W : World) : Prop :=
  W.heap[M]? = some (.map (partsC b 10) 10) ∧ ∃ p v, (p = .pointer none ∨ p = .pointer (some ⟨b, 0, none⟩)) ∧ Wc w0 b p v (.map (some M)) t W
/-- What a part leaves as it was: what w0 held, and all that is neither the writer nor bytes. -/
def Ok (w0 : World) (b : Nat) (W W' : World) : Prop := Below w0.heap.size W W' ∧ W.heap.size ≤ W'.heap.size ∧ Lib.OthersKept 5 (some b) W W'

section
variable {w0 W W' : World} {b M : Nat} {p v m : Value} {t : ByteArray}
theorem Ok.refl : Ok w0 b W W := ⟨Below.refl _ _, Nat.le_refl _, Lib.OthersKept.refl _ _ _⟩
theorem Ok.trans {C : World} (h : Ok w0 b W W') (k : Ok w0 b W' C) : Ok w0 b W C := ⟨h.1.trans k.1, Nat.le_trans h.2.1 k.2.1, h.2.2.trans k.2.2⟩
theorem Ok.alloc (h : Ok w0 b W W') (hw : w0.heap.size ≤ W'.heap.size) (o : Obj) : Ok w0 b W (W'.alloc o) := ⟨h.1.alloc hw o, Nat.le_trans h.2.1 (by simp), h.2.2.alloc o⟩
theorem Ok.drew (h : Ok w0 b W W') : Ok w0 b W W'.drew := ⟨h.1.drew, h.2.1, h.2.2.drew⟩
theorem Ok.set (h : Ok w0 b W W') (hb : w0.heap.size ≤ b) (j : Nat) (x : Value) : Ok w0 b W (W'.setCell ⟨b, j, none⟩ x) := ⟨h.1.setCell (p := ⟨b, j, none⟩) hb x, by rw [World.size_setCell]; exact h.2.1, h.2.2.setCell ⟨b, j, none⟩ rfl x⟩
theorem Ok.obj {k : Nat} {o : Obj} (h : Ok w0 b W W') (hk : W.heap[k]? = some o) (hb : k ≠ b) (ho : ∀ c fz, o ≠ .cells c 5 fz) : W'.heap[k]? = some o := h.2.2 k o hk (fun e => hb (by cases e; rfl)) ho
theorem Ok.bx {k : Nat} {cs : Array Value} {T : TypeId} (h : Ok w0 b W W') (hk : Bx W k cs T) (hb : k ≠ b) (ho : T ≠ 5) : Bx W' k cs T := h.obj hk hb (fun c fz e => by cases e; exact ho rfl)
/-- What was below stands. -/
theorem Ok.of_below (h : Below W.heap.size W W') (hw : w0.heap.size ≤ W.heap.size) : Ok w0 b W W' := ⟨h.mono hw, h.size, fun k _ hk _ _ => (h.block k (Array.getElem?_eq_some_iff.1 hk).1).trans hk⟩
theorem bx_type {k : Nat} {cs cs' : Array Value} {T T' : TypeId} {fz : Nat × Nat} (h : Bx W k cs T) (h' : W.heap[k]? = some (.cells cs' T' fz)) : T' = T := by
  rw [Bx, h'] at h
  cases h
  rfl
theorem Wc.row_ne (h : Wc w0 b p v m t W) {k : Nat} (e : v.ownBlock = some k) : k ≠ b ∧ w0.heap.size ≤ k := by
  rcases h.own.2 with ⟨rfl, _⟩ | ⟨g, cap, cur, rfl, h1, h2, _⟩
  · cases e
  · cases e
    exact ⟨fun e => absurd (bx_type h.bx (by rw [← e]; exact h2)) (by decide), h1⟩
theorem Wc.lt (h : Wc w0 b p v m t W) : b < W.heap.size := h.bx.lt
theorem Wc.base (h : Wc w0 b p v m t W) : w0.heap.size ≤ W.heap.size := h.hw.size
/-- What leaves all blocks alone that there are leaves a writer alone. -/
theorem Wc.below (h : Wc w0 b p v m t W) (hb : Below W.heap.size W W') : Wc w0 b p v m t W' :=
  ⟨h.hb, h.hw.trans (hb.mono h.base), h.bx.below hb, owns_below h.own hb⟩
theorem Wk.below (h : Wk w0 b M t W) (hb : Below W.heap.size W W') : Wk w0 b M t W' := by
  obtain ⟨h1, p, v, hp, h2⟩ := h
  exact ⟨(hb.block _ (Array.getElem?_eq_some_iff.1 h1).1).trans h1, p, v, hp, h2.below hb⟩
theorem Wk.base (h : Wk w0 b M t W) : w0.heap.size ≤ W.heap.size := by
  obtain ⟨_, p, v, hp, h2⟩ := h
  exact h2.base
theorem Wk.hb (h : Wk w0 b M t W) : w0.heap.size ≤ b := by
  obtain ⟨_, p, v, hp, h2⟩ := h
  exact h2.hb
theorem Wk.lt (h : Wk w0 b M t W) : b < W.heap.size := by
  obtain ⟨_, p, v, hp, h2⟩ := h
  exact h2.lt
theorem Wk.hw (h : Wk w0 b M t W) : Below w0.heap.size w0 W := by
  obtain ⟨_, p, v, hp, h2⟩ := h
  exact h2.hw
end
theorem tyB : (Tryz.prog.info? 132).map (·.size) = some 2 := by kernel_rfl
theorem liesBc : liesAt Tryz.prog Tryz.prog.depth 137 (3 / Tryz.prog.cellsOf 137) 0 132 1 = true := by kernel_rfl
set_option maxRecDepth 100000 in
theorem copyC_used (b : Nat) (w : World) (h0 : w.cell? ⟨b, 0, none⟩ = some (.pointer (some ⟨b, 0, none⟩))) :
    Calls Tryz.prog 191 #[.pointer (some ⟨b, 0, none⟩)] w fun e w' => e = .returned (.tuple #[]) ∧ w' = w := by
  obtain ⟨j, hj, _⟩ := Option.map_eq_some_iff.1 tyB
  go_enter Tryz.func191, Tryz.ntmps191
  go_wp2
  rw [Lib.run_neq_ptr_same w _ Tryz.underlying130 hj]
  go_wp2
  go_end0
  exact ⟨rfl, rfl⟩
set_option maxHeartbeats 1000000 in
set_option maxRecDepth 100000 in
theorem copyC_fresh (b : Nat) (w : World) (h0 : w.cell? ⟨b, 0, none⟩ = some (.pointer none)) (hsh : w.shape? b = some (137, 3)) (hfz : w.frozen? ⟨b, 0, none⟩ = false) :
    Calls Tryz.prog 191 #[.pointer (some ⟨b, 0, none⟩)] w fun e w' => e = .returned (.tuple #[]) ∧ w' = w.setCell ⟨b, 0, none⟩ (.pointer (some ⟨b, 0, none⟩)) := by
  obtain ⟨j, hj, hjs⟩ := Option.map_eq_some_iff.1 tyB
  go_enter Tryz.func191, Tryz.ntmps191
  go_wp2
  rw [Lib.run_to_unsafe w ⟨b, 0, none⟩ Tryz.underlying130 Tryz.underlying89 hj (by rw [hjs]; decide) hsh (show 0 < 3 by decide)]
  simp only [Result.andThen]
  rw [Oper.upon_value]
  go_wp2
  rw [run_callFunc_extern Tryz.func218 (by kernel_rfl) (by kernel_rfl) (by kernel_rfl) (e := Extern.AbiNoEscape.same) (by kernel_rfl)]
  rw [Lib.run_noEscape]
  simp only [Result.andThen]
  rw [Oper.upon_value]
  go_wp2
  rw [Lib.run_from_unsafe w ⟨b, 0, none⟩ Tryz.underlying89 Tryz.underlying130 hj hsh liesBc]
  simp only [Result.andThen]
  rw [Oper.upon_value]
  go_wp2
  go_end0
  exact ⟨rfl, rfl⟩
theorem copyC_calls {w0 : World} {b : Nat} {p v m : Value} {t : ByteArray} {W : World} (hp : p = .pointer none ∨ p = .pointer (some ⟨b, 0, none⟩)) (h : Wc w0 b p v m t W) :
    Calls Tryz.prog 191 #[.pointer (some ⟨b, 0, none⟩)] W fun e w' => e = .returned (.tuple #[]) ∧ Wc w0 b (.pointer (some ⟨b, 0, none⟩)) v m t w' ∧ Ok w0 b W w' ∧ ∀ k, k ≠ b → w'.heap[k]? = W.heap[k]? := by
  rcases hp with rfl | rfl
  · refine (copyC_fresh b W (h.bx.c 0 rfl) (by simp [World.shape?, show W.heap[b]? = _ from h.bx, wcC]) (h.bx.f 0)).mono ?_
    rintro e w' ⟨rfl, rfl⟩
    refine ⟨rfl, ⟨h.hb, h.hw.setCell (p := ⟨b, 0, none⟩) h.hb _, h.bx.set 0 _, ?_⟩, Ok.refl.set h.hb 0 _, fun k hk => Below.heap_setCell _ ⟨b, 0, none⟩ _ k hk⟩
    refine h.own.kept (row := some b) ⟨rfl, rfl, rfl, by simp [World.setCell], fun k _ hk => Below.heap_setCell _ _ _ _ (fun e => hk (by simp [e]))⟩ ?_
    exact .inr fun e => (h.row_ne e).1 rfl
  · refine (copyC_used b W (h.bx.c 0 rfl)).mono ?_
    rintro e w' ⟨rfl, rfl⟩
    exact ⟨rfl, h, Ok.refl, fun _ _ => rfl⟩
theorem info8 : (Tryz.prog.info? 5).map (fun i => (i.zero, i.size, i.bytes)) = some (some (.int .u8 0), 1, 1) := by kernel_rfl
theorem cells8u : Tryz.prog.cellsOf 5 = 1 := by kernel_rfl
theorem strCells_app (s t : ByteArray) : Lib.strCells (s ++ t) = Lib.strCells s ++ Lib.strCells t := by
  simp [Lib.strCells, ByteArray.data_append]
set_option maxHeartbeats 1000000 in
set_option maxRecDepth 100000 in
theorem wStr_calls {w0 : World} {b M : Nat} {t : ByteArray} {W : World} (s : ByteArray) (h : Wk w0 b M t W) (hlen : t.size + s.size ≤ 1099511627776) :
    Calls Tryz.prog 147 #[.pointer (some ⟨b, 0, none⟩), .string s] W fun e w' => e = .returned (.tuple #[.int .i64 s.size, .nilIface]) ∧ Wk w0 b M (t ++ s) w' ∧ Ok w0 b W w' := by
  obtain ⟨i0, hi, hz0, hz1, hz2⟩ := info_parts info8
  obtain ⟨hM, p, v, hp, h⟩ := h
  have HM := Lib.hid hM
  have HMB : Hid (M ≠ b) := Lib.hid (fun e => by subst e; have := h.bx; rw [Bx, hM] at this; cases this)
  clear hM
  go_enter Tryz.func147, Tryz.ntmps147
  go_wp2_with (go_at_call 191; refine (copyC_calls hp h).mono ?_)
  rintro e w1 ⟨rfl, h1, hk1, hq1⟩
  have hown := h1.own
  have c0 := h1.bx.c 0 rfl
  have c1 := h1.bx.c 1 rfl
  have HW1 := Lib.hid h1
  have HK1 := Lib.hid hk1
  clear h1 hk1 h hp
  go_wp2_with (at_builtin; refine Lib.wpList_append_own_string _ rfl _ _ 45 9 rfl w0.heap.size 5 i0 Tryz.underlying45 Tryz.underlying9 hi hz0 hz1 hz2 _ _ _ rfl hown s rfl ?c3 ?c4 ?c5 ?_)
  case c3 => unfold maxLen; omega
  case c4 => omega
  case c5 => exact HW1.out.base
  intro v' w2 hown' hgrow _
  have HO := Lib.hid hown'
  have HG := Lib.hid hgrow
  have hb2 : Bx w2 b (wcC (.pointer (some ⟨b, 0, none⟩)) v (.map (some M))) 137 := (hgrow.block b HW1.out.lt (fun e => (HW1.out.row_ne e.symm).1 rfl)).trans HW1.out.bx
  have d0 := hb2.c 0 rfl
  have d1 := hb2.c 1 rfl
  have f1 := hb2.f 1
  have HB2 := Lib.hid hb2
  obtain ⟨ao, n', cap, rfl⟩ : ∃ ao n' cap, v' = .slice ao n' cap := by
    rcases hown'.2 with ⟨hv, _⟩ | ⟨g, cap, cur, hv, _⟩
    · exact ⟨_, _, _, hv⟩
    · exact ⟨_, _, _, hv⟩
  clear hown' hgrow hb2 hown c0 c1
  go_wp2
  go_ret2
  have hrow : ∀ g, v.ownBlock = some g → ∃ c fz, w1.heap[g]? = some (.cells c 5 fz) := by
    intro g hg
    rcases HW1.out.own.2 with ⟨rfl, _⟩ | ⟨g', cap, cur, rfl, _, h2, _⟩
    · cases hg
    · cases hg; exact ⟨_, _, h2⟩
  have hok : Ok w0 b W w2 := HK1.out.trans ⟨(Below.refl _ _).grown HG.out HW1.out.base (fun k hk => (HW1.out.row_ne hk).2), HG.out.size, (Lib.OthersKept.refl _ _ _).grown HG.out hrow⟩
  refine ⟨rfl, ⟨?_, _, _, .inr rfl, ⟨HW1.out.hb, ?_, HB2.out.set 1 _, ?_⟩⟩, hok.set HW1.out.hb 1 _⟩
  · exact (hok.set HW1.out.hb 1 _).obj HM.out HMB.out (fun c fz e => by cases e)
  · exact (HW1.out.hw.grown HG.out HW1.out.base (fun k hk => (HW1.out.row_ne hk).2)).setCell (p := ⟨b, 1, none⟩) HW1.out.hb _
  · rw [strCells_app, ByteArray.size_append]
    refine HO.out.kept (row := some b) ⟨rfl, rfl, rfl, by simp [World.setCell], fun k _ hk => Below.heap_setCell _ _ _ _ (fun e => hk (by simp [e]))⟩ ?_
    refine .inr fun e => ?_
    rcases HO.out.2 with ⟨hv, _⟩ | ⟨g', cap', cur, hv, _, h2, _⟩
    · rw [hv] at e; cases e
    · rw [hv] at e
      exact absurd (bx_type HB2.out (by rw [← Option.some.inj e]; exact h2)) (by decide)
set_option maxHeartbeats 1000000 in
set_option maxRecDepth 100000 in
theorem wByte_calls {w0 : World} {b M : Nat} {t : ByteArray} {W : World} (c : UInt8) (S : Nat) (hS : Bx W S #[.int .u8 (c.toNat : Int)] 5) (hSb : S ≠ b) (h : Wk w0 b M t W) (hlen : t.size + 1 ≤ 1099511627776) :
    Calls Tryz.prog 192 #[.pointer (some ⟨b, 0, none⟩), .slice (some ⟨S, 0, none⟩) 1 1] W fun e w' => e = .returned (.tuple #[.int .i64 1, .nilIface]) ∧ Wk w0 b M (t ++ ⟨#[c]⟩) w' ∧ Ok w0 b W w' := by
  obtain ⟨i0, hi, hz0, hz1, hz2⟩ := info_parts info8
  obtain ⟨hM, p, v, hp, h⟩ := h
  have HM := Lib.hid hM
  have HMB : Hid (M ≠ b) := Lib.hid (fun e => by subst e; have := h.bx; rw [Bx, hM] at this; cases this)
  clear hM
  go_enter Tryz.func192, Tryz.ntmps192
  go_wp2_with (go_at_call 191; refine (copyC_calls hp h).mono ?_)
  rintro e w1 ⟨rfl, h1, hk1, hq1⟩
  have hown := h1.own
  have hS1 : Bx w1 S #[.int .u8 (c.toNat : Int)] 5 := (hq1 S hSb).trans hS
  have c0 := h1.bx.c 0 rfl
  have c1 := h1.bx.c 1 rfl
  have HW1 := Lib.hid h1
  have HK1 := Lib.hid hk1
  clear h1 hk1 h hp
  go_wp2_with (at_builtin; refine wpList_append_own _ rfl _ _ 45 rfl w0.heap.size 5 i0 _ 1 1 Tryz.underlying45 hi hz0 hz1 hz2 rfl (by decide) _ _ _ rfl hown ⟨S, 0, none⟩ 1 1 [.int .u8 (c.toNat : Int)] rfl rfl (news_blk #[.int .u8 (c.toNat : Int)] hS1) (by simp [Value.oneCell']) ?c3 ?c4 ?c5 ?_)
  case c3 => unfold maxLen; omega
  case c4 => omega
  case c5 => exact HW1.out.base
  intro v' w2 hown' hgrow _
  have HO := Lib.hid hown'
  have HG := Lib.hid hgrow
  have hb2 : Bx w2 b (wcC (.pointer (some ⟨b, 0, none⟩)) v (.map (some M))) 137 := (hgrow.block b HW1.out.lt (fun e => (HW1.out.row_ne e.symm).1 rfl)).trans HW1.out.bx
  have d0 := hb2.c 0 rfl
  have d1 := hb2.c 1 rfl
  have f1 := hb2.f 1
  have HB2 := Lib.hid hb2
  obtain ⟨ao, n', cap, rfl⟩ : ∃ ao n' cap, v' = .slice ao n' cap := by
    rcases hown'.2 with ⟨hv, _⟩ | ⟨g, cap, cur, hv, _⟩
    · exact ⟨_, _, _, hv⟩
    · exact ⟨_, _, _, hv⟩
  clear hown' hgrow hb2 hown c0 c1
  go_wp2
  go_ret2
  have hrow : ∀ g, v.ownBlock = some g → ∃ c fz, w1.heap[g]? = some (.cells c 5 fz) := by
    intro g hg
    rcases HW1.out.own.2 with ⟨rfl, _⟩ | ⟨g', cap, cur, rfl, _, h2, _⟩
    · cases hg
    · cases hg; exact ⟨_, _, h2⟩
  have hok : Ok w0 b W w2 := HK1.out.trans ⟨(Below.refl _ _).grown HG.out HW1.out.base (fun k hk => (HW1.out.row_ne hk).2), HG.out.size, (Lib.OthersKept.refl _ _ _).grown HG.out hrow⟩
  refine ⟨rfl, ⟨?_, _, _, .inr rfl, ⟨HW1.out.hb, ?_, HB2.out.set 1 _, ?_⟩⟩, hok.set HW1.out.hb 1 _⟩
  · exact (hok.set HW1.out.hb 1 _).obj HM.out HMB.out (fun c fz e => by cases e)
  · exact (HW1.out.hw.grown HG.out HW1.out.base (fun k hk => (HW1.out.row_ne hk).2)).setCell (p := ⟨b, 1, none⟩) HW1.out.hb _
  · rw [strCells_app, ByteArray.size_append, show Lib.strCells ⟨#[c]⟩ = [.int .u8 (c.toNat : Int)] from rfl, show (ByteArray.mk #[c]).size = 1 from rfl]
    refine HO.out.kept (row := some b) ⟨rfl, rfl, rfl, by simp [World.setCell], fun k _ hk => Below.heap_setCell _ _ _ _ (fun e => hk (by simp [e]))⟩ ?_
    refine .inr fun e => ?_
    rcases HO.out.2 with ⟨hv, _⟩ | ⟨g', cap', cur, hv, _, h2, _⟩
    · rw [hv] at e; cases e
    · rw [hv] at e
      exact absurd (bx_type HB2.out (by rw [← Option.some.inj e]; exact h2)) (by decide)
set_option maxHeartbeats 1000000 in
set_option maxRecDepth 100000 in
theorem strC_calls {w0 : World} {b : Nat} {p v m : Value} {t : ByteArray} {W : World} (h : Wc w0 b p v m t W) (h0 : 0 < t.size) :
    Calls Tryz.prog 72 #[.pointer (some ⟨b, 0, none⟩)] W fun e w' => e = .returned (.string t) ∧ Below w0.heap.size W w' := by
  obtain ⟨g, cap, cur, rfl, hbg, hg, hnc, hcm, hcs, htake⟩ : ∃ g cap cur, v = .slice (some ⟨g, 0, none⟩) t.size cap ∧ w0.heap.size ≤ g ∧ W.heap[g]? = some (.cells cur 5 (0, 0)) ∧ t.size ≤ cap ∧ cap ≤ maxLen ∧ cur.size = cap * 1 ∧ cur.toList.take (t.size * 1) = Lib.strCells t := by
    rcases h.own.2 with ⟨_, hz⟩ | ⟨g, cap, cur, hv, r⟩
    · omega
    · exact ⟨g, cap, cur, hv, r⟩
  have c1 : W.drew.cell? ⟨b, 1, none⟩ = some (.slice (some ⟨g, 0, none⟩) t.size cap) := h.bx.c 1 rfl
  have hSD : (Builtin.unsafeSliceData_ #[45] 179 #[.slice (some ⟨g, 0, none⟩) t.size cap]).run Tryz.prog W.drew = .ok (.pointer (some ⟨g, 0, none⟩)) W.drew :=
    Lib.run_unsafeSliceData_row _ _ _ _ _ _ (by omega)
  have hlen : t.data.toList.length = t.size := by rw [Array.length_toList]; rfl
  have hUS : (Builtin.unsafeString_ #[179, 3] 9 #[.pointer (some ⟨g, 0, none⟩), .int .i64 t.size]).run Tryz.prog W.drew = .ok (.string t) (W.drew.freeze ⟨g, 0, none⟩ t.size) := by
    have := Lib.run_unsafeString_row (P := Tryz.prog) W.drew 179 3 9 5 Tryz.underlying179 cells8u g cur.size (by have hg' : W.drew.heap[g]? = some (.cells cur 5 (0, 0)) := hg; simp [World.shape?, hg']) t.data.toList (fun e => by rw [e] at hlen; simp at hlen; omega) (by omega) (by unfold maxLen at hcm; omega) ?_
    · rw [hlen] at this
      exact this
    · intro j x hx
      have := h.own.cells (g := g) rfl j (.int .u8 x.toNat) (by simp only [Lib.strCells, List.getElem?_map, hx]; rfl)
      exact this
  have HH := Lib.hid h
  have HBG := Lib.hid hbg
  clear h hg hcs htake
  go_enter Tryz.func72, Tryz.ntmps72
  go_wp2
  go_region
  all_goals (go_wp2; go_ret; exact ⟨rfl, Lib.below_freeze (Below.drew (Below.refl _ W)) (p := ⟨g, 0, none⟩) HBG.out _⟩)
end Go.Proofs.YtppapkpceejnkaaGreatDoor
namespace Go.Proofs.YtppapkpceejnkaaGreatDoor
open Go.RowKit

/-- What a writing method leaves. -/
def PutC (w0 : World) (b M : Nat) (t : ByteArray) (W : World) (o : Ending) (w' : World) : Prop := o = .returned (.tuple #[]) ∧ Wk w0 b M t w' ∧ Ok w0 b W w'
theorem makeH_calls (m u : Nat) (hm : m < 8) (hu : u < 18446744073709551616) (V : World) (hV : SizT V) : Calls Tryz.prog 20 #[.int .i64 (m : Int), .int .u64 (u : Int)] V fun o w' => o = .returned (.tuple #[.string (headB m u), .int .i64 0]) ∧ Below V.heap.size V w' := by
  have h := Make_ans (m : Int) u hu V hV
  rw [mkB, mkE, if_pos (by omega), if_pos (by omega), Int.toNat_natCast] at h
  exact h
theorem Wk.alloc {w0 W : World} {b M : Nat} {t : ByteArray} (h : Wk w0 b M t W) (o : Obj) : Wk w0 b M t (W.alloc o) := h.below (below_a (Below.refl _ _) _)
theorem Wk.drew {w0 W : World} {b M : Nat} {t : ByteArray} (h : Wk w0 b M t W) : Wk w0 b M t W.drew := h.below (Below.refl _ _).drew
section
variable {w0 W : World} {b M : Nat} {t : ByteArray}
set_option maxRecDepth 100000 in
set_option maxHeartbeats 1000000 in
theorem headC_calls (m a : Nat) (hm : m < 8) (ha : a < 18446744073709551616) (hT : SizT w0) (h : Wk w0 b M t W) (hlen : t.size ≤ 1000000000000) :
    Calls Tryz.prog 152 #[.pointer (some ⟨b, 0, none⟩), .int .i64 (m : Int), .int .u64 (a : Int)] W (PutC w0 b M (t ++ headB m a) W) := by
  have H := Lib.hid h
  have HM := Lib.hid (fun V (hV : SizT V) => makeH_calls m a hm ha V hV)
  have HT := Lib.hid (hT.below h.hw)
  have hs : (headB m a).size ≤ 9 := by rw [headB_size]; have := hext_le a; omega
  obtain ⟨B, hB⟩ : ∃ B, B = headB m a := ⟨_, rfl⟩
  rw [← hB] at HM hs ⊢
  clear h hB hT
  go_enter Tryz.func152, Tryz.ntmps152
  go_wp2_with fail
  refine (HM.out _ HT.out).mono ?_
  rintro o w1 ⟨rfl, hb1⟩
  have H1 := Lib.hid (H.out.below hb1)
  have HK1 : Hid (Ok w0 b W w1) := Lib.hid (Ok.of_below hb1 H.out.base)
  clear hb1
  go_wp2_with fail
  refine (wStr_calls B H1.out (by omega)).mono ?_
  rintro o w2 ⟨rfl, h2, hk2⟩
  have H2 := Lib.hid h2
  have HK2 := Lib.hid (HK1.out.trans hk2)
  clear h2 hk2
  go_wp2
  go_end0
  exact ⟨rfl, H2.out, HK2.out⟩

set_option maxRecDepth 100000 in
set_option maxHeartbeats 1000000 in
theorem nullC_calls (hd : Hd) (A : Option Addr) (n c : Nat) (hT : SizT w0) (h : Wk w0 b M t W) (hlen : t.size ≤ 1000000000000) :
    Calls Tryz.prog 107 #[.pointer (some ⟨b, 0, none⟩), .agg (hd.cells (.slice A n c))] W (PutC w0 b M (t ++ headB 7 22) W) := by
  have HX := Lib.hid (Nx.new W hd (.slice A n c))
  have H1 := Lib.hid (h.alloc (.cells (hd.cells (.slice A n c)) 28))
  have HK1 : Hid (Ok w0 b W (W.alloc (.cells (hd.cells (.slice A n c)) 28))) := Lib.hid (Ok.refl.alloc h.base _)
  have HH := Lib.hid (fun V (hV : Wk w0 b M t V) => headC_calls (W := V) 7 22 (by decide) (by decide) hT hV hlen)
  clear h hT
  simp only [Hd.cells] at H1 HK1 ⊢
  go_enter Tryz.func107, Tryz.ntmps107
  go_wp2_with fail
  refine (HH.out _ H1.out).mono ?_
  rintro o w2 ⟨rfl, h2, hk2⟩
  have H2 := Lib.hid h2
  have HK2 := Lib.hid (HK1.out.trans hk2)
  clear h2 hk2
  go_wp2
  go_end0
  exact ⟨rfl, H2.out, HK2.out⟩

set_option maxRecDepth 100000 in
set_option maxHeartbeats 1000000 in
theorem tagC_calls (hd : Hd) (A : Option Addr) (n c : Nat) (hu : hd.u < 18446744073709551616) (hT : SizT w0) (h : Wk w0 b M t W) (hlen : t.size ≤ 1000000000000) :
    Calls Tryz.prog 115 #[.pointer (some ⟨b, 0, none⟩), .agg (hd.cells (.slice A n c))] W (PutC w0 b M (t ++ headB 6 (hd.u)) W) := by
  have HX := Lib.hid (Nx.new W hd (.slice A n c))
  have H1 := Lib.hid (h.alloc (.cells (hd.cells (.slice A n c)) 28))
  have HK1 : Hid (Ok w0 b W (W.alloc (.cells (hd.cells (.slice A n c)) 28))) := Lib.hid (Ok.refl.alloc h.base _)
  have hne : W.heap.size ≠ b := by have := h.lt; omega
  obtain ⟨W1, hW1⟩ : ∃ W1, W1 = W.alloc (.cells (hd.cells (.slice A n c)) 28) := ⟨_, rfl⟩
  rw [← hW1] at H1 HK1
  replace HX : Hid (Nx W1 W.heap.size hd (.slice A n c)) := Lib.hid (by rw [hW1]; exact Nx.new W hd _)
  have HH := Lib.hid (fun V (hV : Wk w0 b M t V) => headC_calls (W := V) 6 (hd.u) (by decide) (hu) hT hV hlen)
  have hq : W1.cell? ⟨W.heap.size, 5, none⟩ = some (.int .u64 (hd.u : Int)) := HX.out.nine.2.2.2.2.2.1
  have hmxH : Tryz.prog.follows .mixedOrders = true := by kernel_rfl
  clear h hT
  simp only [Hd.cells] at hW1 ⊢
  go_enter Tryz.func115, Tryz.ntmps115
  go_wp2_with fail
  rw [← hW1]
  refine wp_region_held_drew (S := fun w' => w'.cell? ⟨W.heap.size, 5, none⟩ = some (.int .u64 (hd.u : Int))) hmxH hq ?_
  clear hW1 hq
  intro hHeld
  refine wpAnyH_take (i := 0) (v := .pointer (some ⟨b, 0, none⟩)) rfl (by kernel_rfl) (by kernel_rfl) (by kernel_rfl) (fun _ _ _ h => h) (Or.inl ⟨by rfl, by rintro w h0; go_simp⟩) hHeld ?_
  refine wpAnyH_take (i := 1) (v := .pointer (some ⟨b, 0, none⟩)) rfl (by kernel_rfl) (by kernel_rfl) (by kernel_rfl) (fun _ _ _ h => h) (Or.inl ⟨by rfl, by rintro w h0; go_simp⟩) hHeld ?_
  refine wpAnyH_take (i := 2) (v := .pointer (some ⟨b, 0, none⟩)) rfl (by kernel_rfl) (by kernel_rfl) (by kernel_rfl) (fun _ _ _ h => h) (Or.inl ⟨by rfl, by rintro w h0; go_simp⟩) hHeld ?_
  refine wpAnyH_take (i := 3) (v := .pointer (some ⟨W.heap.size, 5, none⟩)) rfl (by kernel_rfl) (by kernel_rfl) (by kernel_rfl) (fun _ _ _ h => h) (Or.inl ⟨by rfl, by rintro w h0; go_simp⟩) hHeld ?_
  refine wpAnyH_take (i := 4) (v := .int .u64 (hd.u : Int)) rfl (by kernel_rfl) (by kernel_rfl) (by kernel_rfl) (fun _ _ _ h => h) (Or.inl ⟨by rfl, by rintro w h0; go_simp⟩) hHeld ?_
  refine wpAnyH_ready (rs := [5]) (by kernel_rfl) (by simp) ?_
  refine AllReadyH.cons rfl (fun K hK => ?_) AllReadyH.nil
  go_simp
  refine (HH.out _ H1.out.drew).mono ?_
  rintro o w2 ⟨rfl, h2, hk2⟩
  have H2 := Lib.hid h2
  have HK2 := Lib.hid (HK1.out.trans ((Ok.refl (b := b)).drew.trans hk2))
  have hq2 : w2.cell? ⟨W.heap.size, 5, none⟩ = some (.int .u64 (hd.u : Int)) := (show Nx w2 W.heap.size hd (.slice A n c) from hk2.bx (show Nx W1.drew W.heap.size hd (.slice A n c) from HX.out) hne (by decide)).nine.2.2.2.2.2.1
  clear h2 hk2
  refine hK.out _ _ hq2 (fun hHeld => ?_)
  clear hK K
  refine wpAnyH_done (by kernel_rfl) ?_ _
  clear hHeld
  go_wp2
  go_end0
  exact ⟨rfl, H2.out, HK2.out⟩

set_option maxRecDepth 100000 in
set_option maxHeartbeats 1000000 in
theorem simpleC_calls (hd : Hd) (A : Option Addr) (n c : Nat) (hu : hd.u < 18446744073709551616) (hT : SizT w0) (h : Wk w0 b M t W) (hlen : t.size ≤ 1000000000000) :
    Calls Tryz.prog 116 #[.pointer (some ⟨b, 0, none⟩), .agg (hd.cells (.slice A n c))] W (PutC w0 b M (t ++ headB 7 (hd.u)) W) := by
  have HX := Lib.hid (Nx.new W hd (.slice A n c))
  have H1 := Lib.hid (h.alloc (.cells (hd.cells (.slice A n c)) 28))
  have HK1 : Hid (Ok w0 b W (W.alloc (.cells (hd.cells (.slice A n c)) 28))) := Lib.hid (Ok.refl.alloc h.base _)
  have hne : W.heap.size ≠ b := by have := h.lt; omega
  obtain ⟨W1, hW1⟩ : ∃ W1, W1 = W.alloc (.cells (hd.cells (.slice A n c)) 28) := ⟨_, rfl⟩
  rw [← hW1] at H1 HK1
  replace HX : Hid (Nx W1 W.heap.size hd (.slice A n c)) := Lib.hid (by rw [hW1]; exact Nx.new W hd _)
  have HH := Lib.hid (fun V (hV : Wk w0 b M t V) => headC_calls (W := V) 7 (hd.u) (by decide) (hu) hT hV hlen)
  have hq : W1.cell? ⟨W.heap.size, 5, none⟩ = some (.int .u64 (hd.u : Int)) := HX.out.nine.2.2.2.2.2.1
  have hmxH : Tryz.prog.follows .mixedOrders = true := by kernel_rfl
  clear h hT
  simp only [Hd.cells] at hW1 ⊢
  go_enter Tryz.func116, Tryz.ntmps116
  go_wp2_with fail
  rw [← hW1]
  refine wp_region_held_drew (S := fun w' => w'.cell? ⟨W.heap.size, 5, none⟩ = some (.int .u64 (hd.u : Int))) hmxH hq ?_
  clear hW1 hq
  intro hHeld
  refine wpAnyH_take (i := 0) (v := .pointer (some ⟨b, 0, none⟩)) rfl (by kernel_rfl) (by kernel_rfl) (by kernel_rfl) (fun _ _ _ h => h) (Or.inl ⟨by rfl, by rintro w h0; go_simp⟩) hHeld ?_
  refine wpAnyH_take (i := 1) (v := .pointer (some ⟨b, 0, none⟩)) rfl (by kernel_rfl) (by kernel_rfl) (by kernel_rfl) (fun _ _ _ h => h) (Or.inl ⟨by rfl, by rintro w h0; go_simp⟩) hHeld ?_
  refine wpAnyH_take (i := 2) (v := .pointer (some ⟨b, 0, none⟩)) rfl (by kernel_rfl) (by kernel_rfl) (by kernel_rfl) (fun _ _ _ h => h) (Or.inl ⟨by rfl, by rintro w h0; go_simp⟩) hHeld ?_
  refine wpAnyH_take (i := 3) (v := .pointer (some ⟨W.heap.size, 5, none⟩)) rfl (by kernel_rfl) (by kernel_rfl) (by kernel_rfl) (fun _ _ _ h => h) (Or.inl ⟨by rfl, by rintro w h0; go_simp⟩) hHeld ?_
  refine wpAnyH_take (i := 4) (v := .int .u64 (hd.u : Int)) rfl (by kernel_rfl) (by kernel_rfl) (by kernel_rfl) (fun _ _ _ h => h) (Or.inl ⟨by rfl, by rintro w h0; go_simp⟩) hHeld ?_
  refine wpAnyH_ready (rs := [5]) (by kernel_rfl) (by simp) ?_
  refine AllReadyH.cons rfl (fun K hK => ?_) AllReadyH.nil
  go_simp
  refine (HH.out _ H1.out.drew).mono ?_
  rintro o w2 ⟨rfl, h2, hk2⟩
  have H2 := Lib.hid h2
  have HK2 := Lib.hid (HK1.out.trans ((Ok.refl (b := b)).drew.trans hk2))
  have hq2 : w2.cell? ⟨W.heap.size, 5, none⟩ = some (.int .u64 (hd.u : Int)) := (show Nx w2 W.heap.size hd (.slice A n c) from hk2.bx (show Nx W1.drew W.heap.size hd (.slice A n c) from HX.out) hne (by decide)).nine.2.2.2.2.2.1
  clear h2 hk2
  refine hK.out _ _ hq2 (fun hHeld => ?_)
  clear hK K
  refine wpAnyH_done (by kernel_rfl) ?_ _
  clear hHeld
  go_wp2
  go_end0
  exact ⟨rfl, H2.out, HK2.out⟩

set_option maxRecDepth 100000 in
set_option maxHeartbeats 1000000 in
theorem arrayC_calls (hd : Hd) (A : Option Addr) (n c : Nat) (hn : n < 9223372036854775808) (hT : SizT w0) (h : Wk w0 b M t W) (hlen : t.size ≤ 1000000000000) :
    Calls Tryz.prog 113 #[.pointer (some ⟨b, 0, none⟩), .agg (hd.cells (.slice A n c))] W (PutC w0 b M (t ++ headB 4 (n)) W) := by
  have HX := Lib.hid (Nx.new W hd (.slice A n c))
  have H1 := Lib.hid (h.alloc (.cells (hd.cells (.slice A n c)) 28))
  have HK1 : Hid (Ok w0 b W (W.alloc (.cells (hd.cells (.slice A n c)) 28))) := Lib.hid (Ok.refl.alloc h.base _)
  have hne : W.heap.size ≠ b := by have := h.lt; omega
  obtain ⟨W1, hW1⟩ : ∃ W1, W1 = W.alloc (.cells (hd.cells (.slice A n c)) 28) := ⟨_, rfl⟩
  rw [← hW1] at H1 HK1
  replace HX : Hid (Nx W1 W.heap.size hd (.slice A n c)) := Lib.hid (by rw [hW1]; exact Nx.new W hd _)
  have HH := Lib.hid (fun V (hV : Wk w0 b M t V) => headC_calls (W := V) 4 (n) (by decide) (by omega) hT hV hlen)
  have hq : W1.cell? ⟨W.heap.size, 8, none⟩ = some (.slice A n c) := HX.out.nine.2.2.2.2.2.2.2.2
  have hmxH : Tryz.prog.follows .mixedOrders = true := by kernel_rfl
  have hwn : IntKind.u64.wrap (n : Int) = (n : Int) := IntWalk.u64_in _ (by omega)
  clear h hT
  simp only [Hd.cells] at hW1 ⊢
  go_enter Tryz.func113, Tryz.ntmps113
  go_wp2_with fail
  rw [← hW1]
  refine wp_region_held_drew (S := fun w' => w'.cell? ⟨W.heap.size, 8, none⟩ = some (.slice A n c)) hmxH hq ?_
  clear hW1 hq
  intro hHeld
  refine wpAnyH_take (i := 0) (v := .pointer (some ⟨b, 0, none⟩)) rfl (by kernel_rfl) (by kernel_rfl) (by kernel_rfl) (fun _ _ _ h => h) (Or.inl ⟨by rfl, by rintro w h0; go_simp⟩) hHeld ?_
  refine wpAnyH_take (i := 1) (v := .pointer (some ⟨b, 0, none⟩)) rfl (by kernel_rfl) (by kernel_rfl) (by kernel_rfl) (fun _ _ _ h => h) (Or.inl ⟨by rfl, by rintro w h0; go_simp⟩) hHeld ?_
  refine wpAnyH_take (i := 2) (v := .pointer (some ⟨b, 0, none⟩)) rfl (by kernel_rfl) (by kernel_rfl) (by kernel_rfl) (fun _ _ _ h => h) (Or.inl ⟨by rfl, by rintro w h0; go_simp⟩) hHeld ?_
  refine wpAnyH_take (i := 3) (v := .pointer (some ⟨W.heap.size, 8, none⟩)) rfl (by kernel_rfl) (by kernel_rfl) (by kernel_rfl) (fun _ _ _ h => h) (Or.inl ⟨by rfl, by rintro w h0; go_simp⟩) hHeld ?_
  refine wpAnyH_take (i := 4) (v := .slice A n c) rfl (by kernel_rfl) (by kernel_rfl) (by kernel_rfl) (fun _ _ _ h => h) (Or.inl ⟨by rfl, by rintro w h0; go_simp⟩) hHeld ?_
  refine wpAnyH_take (i := 5) (v := .int .i64 (n : Int)) rfl (by kernel_rfl) (by kernel_rfl) (by kernel_rfl) (fun _ _ _ h => h) (Or.inl ⟨by rfl, by rintro w h0; go_simp⟩) hHeld ?_
  refine wpAnyH_take (i := 6) (v := .int .u64 (n : Int)) rfl (by kernel_rfl) (by kernel_rfl) (by kernel_rfl) (fun _ _ _ h => h) (Or.inl ⟨by rfl, by rintro w h0; go_simp⟩) hHeld ?_
  refine wpAnyH_ready (rs := [7]) (by kernel_rfl) (by simp) ?_
  refine AllReadyH.cons rfl (fun K hK => ?_) AllReadyH.nil
  go_simp
  refine (HH.out _ H1.out.drew).mono ?_
  rintro o w2 ⟨rfl, h2, hk2⟩
  have H2 := Lib.hid h2
  have HK2 := Lib.hid (HK1.out.trans ((Ok.refl (b := b)).drew.trans hk2))
  have hq2 : w2.cell? ⟨W.heap.size, 8, none⟩ = some (.slice A n c) := (show Nx w2 W.heap.size hd (.slice A n c) from hk2.bx (show Nx W1.drew W.heap.size hd (.slice A n c) from HX.out) hne (by decide)).nine.2.2.2.2.2.2.2.2
  clear h2 hk2
  refine hK.out _ _ hq2 (fun hHeld => ?_)
  clear hK K
  refine wpAnyH_done (by kernel_rfl) ?_ _
  clear hHeld
  go_wp2
  go_end0
  exact ⟨rfl, H2.out, HK2.out⟩

set_option maxRecDepth 100000 in
set_option maxHeartbeats 1000000 in
theorem membersC_calls (hd : Hd) (A : Option Addr) (n c : Nat) (hn : n < 9223372036854775808) (hT : SizT w0) (h : Wk w0 b M t W) (hlen : t.size ≤ 1000000000000) :
    Calls Tryz.prog 114 #[.pointer (some ⟨b, 0, none⟩), .agg (hd.cells (.slice A n c))] W (PutC w0 b M (t ++ headB 5 (n / 2)) W) := by
  have HX := Lib.hid (Nx.new W hd (.slice A n c))
  have H1 := Lib.hid (h.alloc (.cells (hd.cells (.slice A n c)) 28))
  have HK1 : Hid (Ok w0 b W (W.alloc (.cells (hd.cells (.slice A n c)) 28))) := Lib.hid (Ok.refl.alloc h.base _)
  have hne : W.heap.size ≠ b := by have := h.lt; omega
  obtain ⟨W1, hW1⟩ : ∃ W1, W1 = W.alloc (.cells (hd.cells (.slice A n c)) 28) := ⟨_, rfl⟩
  rw [← hW1] at H1 HK1
  replace HX : Hid (Nx W1 W.heap.size hd (.slice A n c)) := Lib.hid (by rw [hW1]; exact Nx.new W hd _)
  have HH := Lib.hid (fun V (hV : Wk w0 b M t V) => headC_calls (W := V) 5 (n / 2) (by decide) (by omega) hT hV hlen)
  have hq : W1.cell? ⟨W.heap.size, 8, none⟩ = some (.slice A n c) := HX.out.nine.2.2.2.2.2.2.2.2
  have hmxH : Tryz.prog.follows .mixedOrders = true := by kernel_rfl
  have hwn : IntKind.i64.wrap ((n : Int) / 2) = (n : Int) / 2 := IntWalk.i64_in _ (by omega)
  have hwu : IntKind.u64.wrap ((n : Int) / 2) = (n : Int) / 2 := IntWalk.u64_in _ (by omega)
  clear h hT
  simp only [Hd.cells] at hW1 ⊢
  go_enter Tryz.func114, Tryz.ntmps114
  go_wp2_with fail
  rw [← hW1]
  refine wp_region_held_drew (S := fun w' => w'.cell? ⟨W.heap.size, 8, none⟩ = some (.slice A n c)) hmxH hq ?_
  clear hW1 hq
  intro hHeld
  refine wpAnyH_take (i := 0) (v := .pointer (some ⟨b, 0, none⟩)) rfl (by kernel_rfl) (by kernel_rfl) (by kernel_rfl) (fun _ _ _ h => h) (Or.inl ⟨by rfl, by rintro w h0; go_simp⟩) hHeld ?_
  refine wpAnyH_take (i := 1) (v := .pointer (some ⟨b, 0, none⟩)) rfl (by kernel_rfl) (by kernel_rfl) (by kernel_rfl) (fun _ _ _ h => h) (Or.inl ⟨by rfl, by rintro w h0; go_simp⟩) hHeld ?_
  refine wpAnyH_take (i := 2) (v := .pointer (some ⟨b, 0, none⟩)) rfl (by kernel_rfl) (by kernel_rfl) (by kernel_rfl) (fun _ _ _ h => h) (Or.inl ⟨by rfl, by rintro w h0; go_simp⟩) hHeld ?_
  refine wpAnyH_take (i := 3) (v := .pointer (some ⟨W.heap.size, 8, none⟩)) rfl (by kernel_rfl) (by kernel_rfl) (by kernel_rfl) (fun _ _ _ h => h) (Or.inl ⟨by rfl, by rintro w h0; go_simp⟩) hHeld ?_
  refine wpAnyH_take (i := 4) (v := .slice A n c) rfl (by kernel_rfl) (by kernel_rfl) (by kernel_rfl) (fun _ _ _ h => h) (Or.inl ⟨by rfl, by rintro w h0; go_simp⟩) hHeld ?_
  refine wpAnyH_take (i := 5) (v := .int .i64 (n : Int)) rfl (by kernel_rfl) (by kernel_rfl) (by kernel_rfl) (fun _ _ _ h => h) (Or.inl ⟨by rfl, by rintro w h0; go_simp⟩) hHeld ?_
  refine wpAnyH_take (i := 6) (v := .int .i64 ((n / 2 : Nat) : Int)) rfl (by kernel_rfl) (by kernel_rfl) (by kernel_rfl) (fun _ _ _ h => h) (Or.inl ⟨by rfl, by rintro w h0; go_simp⟩) hHeld ?_
  refine wpAnyH_take (i := 7) (v := .int .u64 ((n / 2 : Nat) : Int)) rfl (by kernel_rfl) (by kernel_rfl) (by kernel_rfl) (fun _ _ _ h => h) (Or.inl ⟨by rfl, by rintro w h0; go_simp⟩) hHeld ?_
  refine wpAnyH_ready (rs := [8]) (by kernel_rfl) (by simp) ?_
  refine AllReadyH.cons rfl (fun K hK => ?_) AllReadyH.nil
  go_simp
  refine (HH.out _ H1.out.drew).mono ?_
  rintro o w2 ⟨rfl, h2, hk2⟩
  have H2 := Lib.hid h2
  have HK2 := Lib.hid (HK1.out.trans ((Ok.refl (b := b)).drew.trans hk2))
  have hq2 : w2.cell? ⟨W.heap.size, 8, none⟩ = some (.slice A n c) := (show Nx w2 W.heap.size hd (.slice A n c) from hk2.bx (show Nx W1.drew W.heap.size hd (.slice A n c) from HX.out) hne (by decide)).nine.2.2.2.2.2.2.2.2
  clear h2 hk2
  refine hK.out _ _ hq2 (fun hHeld => ?_)
  clear hK K
  refine wpAnyH_done (by kernel_rfl) ?_ _
  clear hHeld
  go_wp2
  go_end0
  exact ⟨rfl, H2.out, HK2.out⟩

set_option maxRecDepth 100000 in
set_option maxHeartbeats 1000000 in
theorem truthC_calls (hd : Hd) (A : Option Addr) (n c : Nat) (hT : SizT w0) (h : Wk w0 b M t W) (hlen : t.size ≤ 1000000000000) :
    Calls Tryz.prog 108 #[.pointer (some ⟨b, 0, none⟩), .agg (hd.cells (.slice A n c))] W (PutC w0 b M (t ++ headB 7 (if hd.b then 21 else 20)) W) := by
  have HX := Lib.hid (Nx.new W hd (.slice A n c))
  have H1 := Lib.hid (h.alloc (.cells (hd.cells (.slice A n c)) 28))
  have HK1 : Hid (Ok w0 b W (W.alloc (.cells (hd.cells (.slice A n c)) 28))) := Lib.hid (Ok.refl.alloc h.base _)
  have HH := Lib.hid (fun V (hV : Wk w0 b M t V) => headC_calls (W := V) 7 (if hd.b then 21 else 20) (by decide) (by split <;> decide) hT hV hlen)
  obtain ⟨kd, bb, neg, dig, exp, u, wd, s⟩ := hd
  clear h hT
  simp only [Hd.cells] at H1 HK1 HH ⊢
  cases bb with
  | true =>
    rw [if_pos rfl] at HH ⊢
    go_enter Tryz.func108, Tryz.ntmps108
    go_wp2_with fail
    refine (HH.out _ H1.out).mono ?_
    rintro o w2 ⟨rfl, h2, hk2⟩
    have H2 := Lib.hid h2
    have HK2 := Lib.hid (HK1.out.trans hk2)
    clear h2 hk2
    go_wp2
    refine bodyPost_ret (results_none rfl _ _ _) rfl ?_
    exact ⟨rfl, H2.out, HK2.out⟩
  | false =>
    rw [if_neg (by decide)] at HH ⊢
    go_enter Tryz.func108, Tryz.ntmps108
    go_wp2_with fail
    refine (HH.out _ H1.out).mono ?_
    rintro o w2 ⟨rfl, h2, hk2⟩
    have H2 := Lib.hid h2
    have HK2 := Lib.hid (HK1.out.trans hk2)
    clear h2 hk2
    go_wp2
    go_end0
    exact ⟨rfl, H2.out, HK2.out⟩

end
end Go.Proofs.YtppapkpceejnkaaGreatDoor
namespace Go.Proofs.YtppapkpceejnkaaGreatDoor
open Go.RowKit

section
variable {w0 W : World} {b M : Nat} {t : ByteArray}
set_option maxRecDepth 100000 in
set_option maxHeartbeats 1000000 in
theorem numberC_calls (hd : Hd) (A : Option Addr) (n c m : Nat) (hr : toI hd.neg hd.dig.data.toList hd.exp = some (hd.neg, m)) (hm : m < 18446744073709551616) (hp : hd.neg = true → 0 < m) (hT : SizT w0) (hE : ErrR w0) (h : Wk w0 b M t W) (hlen : t.size ≤ 1000000000000) :
    Calls Tryz.prog 109 #[.pointer (some ⟨b, 0, none⟩), .agg (hd.cells (.slice A n c))] W (PutC w0 b M (t ++ (if hd.neg then headB 1 (m - 1) else headB 0 m)) W) := by
  have HX := Lib.hid (Nx.new W hd (.slice A n c))
  have H1 := Lib.hid (h.alloc (.cells (hd.cells (.slice A n c)) 28))
  have HK1 : Hid (Ok w0 b W (W.alloc (.cells (hd.cells (.slice A n c)) 28))) := Lib.hid (Ok.refl.alloc h.base _)
  have HTo : Hid (∀ V, ErrR V → Calls Tryz.prog 133 #[.agg #[.bool hd.neg, .string hd.dig, .int .i64 hd.exp]] V fun o w' => o = .returned (.tuple #[.bool hd.neg, .int .u64 (m : Int), .bool true]) ∧ Below V.heap.size V w') := Lib.hid (fun V hV => by
    have := pToInt_calls hd.neg hd.dig hd.exp V hV
    rw [hr] at this
    exact this)
  have HE := Lib.hid hE
  obtain ⟨q0, q1, q2, q3, q4, q5, q6, q7, q8⟩ := HX.out.nine
  obtain ⟨kd, bb, neg, dig, exp, u, wd, s⟩ := hd
  dsimp only at hp HTo
  simp only [Hd.cells] at H1 HK1 ⊢
  cases neg with
  | true =>
    have hp := hp rfl
    have HH := Lib.hid (fun V (hV : Wk w0 b M t V) => headC_calls (W := V) 1 (m - 1) (by decide) (by omega) hT hV hlen)
    rw [show ((m - 1 : Nat) : Int) = (m : Int) - 1 by omega] at HH
    rw [if_pos rfl]
    clear h hT hE hr
    go_enter Tryz.func109, Tryz.ntmps109
    go_wp2_with fail
    refine (HTo.out _ (HE.out.below H1.out.hw)).mono ?_
    rintro o w1 ⟨rfl, hb1⟩
    have H2 := Lib.hid (H1.out.below hb1)
    have HK2 : Hid (Ok w0 b W w1) := Lib.hid (HK1.out.trans (Ok.of_below hb1 H1.out.base))
    clear hb1 q0 q1 q2 q3 q4 q5 q6 q7 q8
    go_wp2_with fail
    refine (HH.out _ H2.out).mono ?_
    rintro o w2 ⟨rfl, h2, hk2⟩
    have H3 := Lib.hid h2
    have HK3 := Lib.hid (HK2.out.trans hk2)
    clear h2 hk2
    go_wp2
    refine bodyPost_ret (results_none rfl _ _ _) rfl ?_
    exact ⟨rfl, H3.out, HK3.out⟩
  | false =>
    have HH := Lib.hid (fun V (hV : Wk w0 b M t V) => headC_calls (W := V) 0 m (by decide) hm hT hV hlen)
    rw [if_neg (by decide)]
    clear h hT hE hr
    go_enter Tryz.func109, Tryz.ntmps109
    go_wp2_with fail
    refine (HTo.out _ (HE.out.below H1.out.hw)).mono ?_
    rintro o w1 ⟨rfl, hb1⟩
    have H2 := Lib.hid (H1.out.below hb1)
    have HK2 : Hid (Ok w0 b W w1) := Lib.hid (HK1.out.trans (Ok.of_below hb1 H1.out.base))
    clear hb1 q0 q1 q2 q3 q4 q5 q6 q7 q8
    go_wp2_with fail
    refine (HH.out _ H2.out).mono ?_
    rintro o w2 ⟨rfl, h2, hk2⟩
    have H3 := Lib.hid h2
    have HK3 := Lib.hid (HK2.out.trans hk2)
    clear h2 hk2
    go_wp2
    go_end0
    exact ⟨rfl, H3.out, HK3.out⟩

set_option maxRecDepth 100000 in
set_option maxHeartbeats 1000000 in
theorem textC_calls (hd : Hd) (A : Option Addr) (n c : Nat) (hs : hd.s.size ≤ 400) (hT : SizT w0) (h : Wk w0 b M t W) (hlen : t.size ≤ 1000000000000) :
    Calls Tryz.prog 111 #[.pointer (some ⟨b, 0, none⟩), .agg (hd.cells (.slice A n c))] W (PutC w0 b M (t ++ headB 3 (hd.s.size) ++ hd.s) W) := by
  have HX := Lib.hid (Nx.new W hd (.slice A n c))
  have H1 := Lib.hid (h.alloc (.cells (hd.cells (.slice A n c)) 28))
  have HK1 : Hid (Ok w0 b W (W.alloc (.cells (hd.cells (.slice A n c)) 28))) := Lib.hid (Ok.refl.alloc h.base _)
  have hne : W.heap.size ≠ b := by have := h.lt; omega
  obtain ⟨W1, hW1⟩ : ∃ W1, W1 = W.alloc (.cells (hd.cells (.slice A n c)) 28) := ⟨_, rfl⟩
  rw [← hW1] at H1 HK1
  replace HX : Hid (Nx W1 W.heap.size hd (.slice A n c)) := Lib.hid (by rw [hW1]; exact Nx.new W hd _)
  have HH := Lib.hid (fun V (hV : Wk w0 b M t V) => headC_calls (W := V) 3 (hd.s.size) (by decide) (by omega) hT hV hlen)
  have hq : W1.cell? ⟨W.heap.size, 7, none⟩ = some (.string hd.s) := HX.out.nine.2.2.2.2.2.2.2.1
  have hmxH : Tryz.prog.follows .mixedOrders = true := by kernel_rfl
  have hws : IntKind.u64.wrap (hd.s.size : Int) = (hd.s.size : Int) := IntWalk.u64_in _ (by omega)
  clear h hT
  simp only [Hd.cells] at hW1 ⊢
  go_enter Tryz.func111, Tryz.ntmps111
  go_wp2_with fail
  rw [← hW1]
  refine wp_region_held_drew (S := fun w' => w'.cell? ⟨W.heap.size, 7, none⟩ = some (.string hd.s)) hmxH hq ?_
  clear hW1 hq
  intro hHeld
  refine wpAnyH_take (i := 0) (v := .pointer (some ⟨b, 0, none⟩)) rfl (by kernel_rfl) (by kernel_rfl) (by kernel_rfl) (fun _ _ _ h => h) (Or.inl ⟨by rfl, by rintro w h0; go_simp⟩) hHeld ?_
  refine wpAnyH_take (i := 1) (v := .pointer (some ⟨b, 0, none⟩)) rfl (by kernel_rfl) (by kernel_rfl) (by kernel_rfl) (fun _ _ _ h => h) (Or.inl ⟨by rfl, by rintro w h0; go_simp⟩) hHeld ?_
  refine wpAnyH_take (i := 2) (v := .pointer (some ⟨b, 0, none⟩)) rfl (by kernel_rfl) (by kernel_rfl) (by kernel_rfl) (fun _ _ _ h => h) (Or.inl ⟨by rfl, by rintro w h0; go_simp⟩) hHeld ?_
  refine wpAnyH_take (i := 3) (v := .pointer (some ⟨W.heap.size, 7, none⟩)) rfl (by kernel_rfl) (by kernel_rfl) (by kernel_rfl) (fun _ _ _ h => h) (Or.inl ⟨by rfl, by rintro w h0; go_simp⟩) hHeld ?_
  refine wpAnyH_take (i := 4) (v := .string hd.s) rfl (by kernel_rfl) (by kernel_rfl) (by kernel_rfl) (fun _ _ _ h => h) (Or.inl ⟨by rfl, by rintro w h0; go_simp⟩) hHeld ?_
  refine wpAnyH_take (i := 5) (v := .int .i64 (hd.s.size : Int)) rfl (by kernel_rfl) (by kernel_rfl) (by kernel_rfl) (fun _ _ _ h => h) (Or.inl ⟨by rfl, by rintro w h0; go_simp⟩) hHeld ?_
  refine wpAnyH_take (i := 6) (v := .int .u64 (hd.s.size : Int)) rfl (by kernel_rfl) (by kernel_rfl) (by kernel_rfl) (fun _ _ _ h => h) (Or.inl ⟨by rfl, by rintro w h0; go_simp⟩) hHeld ?_
  refine wpAnyH_ready (rs := [7]) (by kernel_rfl) (by simp) ?_
  refine AllReadyH.cons rfl (fun K hK => ?_) AllReadyH.nil
  go_simp
  refine (HH.out _ H1.out.drew).mono ?_
  rintro o w2 ⟨rfl, h2, hk2⟩
  have H2 := Lib.hid h2
  have HK2 := Lib.hid (HK1.out.trans ((Ok.refl (b := b)).drew.trans hk2))
  have hq2 : w2.cell? ⟨W.heap.size, 7, none⟩ = some (.string hd.s) := (show Nx w2 W.heap.size hd (.slice A n c) from hk2.bx (show Nx W1.drew W.heap.size hd (.slice A n c) from HX.out) hne (by decide)).nine.2.2.2.2.2.2.2.1
  have HX2 : Hid (Nx w2 W.heap.size hd (.slice A n c)) := Lib.hid (hk2.bx (show Nx W1.drew W.heap.size hd (.slice A n c) from HX.out) hne (by decide))
  clear h2 hk2
  refine hK.out _ _ hq2 (fun hHeld => ?_)
  clear hK K
  refine wpAnyH_done (by kernel_rfl) ?_ _
  clear hHeld
  have hq3 : w2.cell? ⟨W.heap.size, 7, none⟩ = some (.string hd.s) := hq2
  go_wp2_with fail
  refine wp_region_held_drew (S := fun w' => w'.cell? ⟨W.heap.size, 7, none⟩ = some (.string hd.s)) hmxH hq3 ?_
  clear hq3
  intro hHeld
  refine wpAnyH_take (i := 0) (v := .pointer (some ⟨b, 0, none⟩)) rfl (by kernel_rfl) (by kernel_rfl) (by kernel_rfl) (fun _ _ _ h => h) (Or.inl ⟨by rfl, by rintro w h0; go_simp⟩) hHeld ?_
  refine wpAnyH_take (i := 1) (v := .pointer (some ⟨b, 0, none⟩)) rfl (by kernel_rfl) (by kernel_rfl) (by kernel_rfl) (fun _ _ _ h => h) (Or.inl ⟨by rfl, by rintro w h0; go_simp⟩) hHeld ?_
  refine wpAnyH_take (i := 2) (v := .pointer (some ⟨b, 0, none⟩)) rfl (by kernel_rfl) (by kernel_rfl) (by kernel_rfl) (fun _ _ _ h => h) (Or.inl ⟨by rfl, by rintro w h0; go_simp⟩) hHeld ?_
  refine wpAnyH_take (i := 3) (v := .pointer (some ⟨b, 0, none⟩)) rfl (by kernel_rfl) (by kernel_rfl) (by kernel_rfl) (fun _ _ _ h => h) (Or.inl ⟨by rfl, by rintro w h0; go_simp⟩) hHeld ?_
  refine wpAnyH_take (i := 4) (v := .pointer (some ⟨W.heap.size, 7, none⟩)) rfl (by kernel_rfl) (by kernel_rfl) (by kernel_rfl) (fun _ _ _ h => h) (Or.inl ⟨by rfl, by rintro w h0; go_simp⟩) hHeld ?_
  refine wpAnyH_take (i := 5) (v := .string hd.s) rfl (by kernel_rfl) (by kernel_rfl) (by kernel_rfl) (fun _ _ _ h => h) (Or.inl ⟨by rfl, by rintro w h0; go_simp⟩) hHeld ?_
  refine wpAnyH_ready (rs := [6]) (by kernel_rfl) (by simp) ?_
  refine AllReadyH.cons rfl (fun K hK => ?_) AllReadyH.nil
  go_simp
  have hsz : (t ++ headB 3 (hd.s.size)).size + hd.s.size ≤ 1099511627776 := by
    rw [ByteArray.size_append, headB_size]
    have := hext_le hd.s.size
    omega
  refine (wStr_calls hd.s H2.out.drew hsz).mono ?_
  rintro o w3 ⟨rfl, h3, hk3⟩
  have H3 := Lib.hid h3
  have HK3 := Lib.hid (HK2.out.trans ((Ok.refl (b := b)).drew.trans hk3))
  have hq4 : w3.cell? ⟨W.heap.size, 7, none⟩ = some (.string hd.s) := (show Nx w3 W.heap.size hd (.slice A n c) from hk3.bx (show Nx w2.drew W.heap.size hd (.slice A n c) from HX2.out) hne (by decide)).nine.2.2.2.2.2.2.2.1
  clear h3 hk3
  refine hK.out _ _ hq4 (fun hHeld => ?_)
  clear hK K
  refine wpAnyH_done (by kernel_rfl) ?_ _
  clear hHeld
  go_wp2
  go_end0
  exact ⟨rfl, H3.out, HK3.out⟩

set_option maxRecDepth 100000 in
set_option maxHeartbeats 1000000 in
theorem bytesC_calls (hd : Hd) (A : Option Addr) (n c : Nat) (hs : hd.s.size ≤ 400) (hT : SizT w0) (h : Wk w0 b M t W) (hlen : t.size ≤ 1000000000000) :
    Calls Tryz.prog 112 #[.pointer (some ⟨b, 0, none⟩), .agg (hd.cells (.slice A n c))] W (PutC w0 b M (t ++ headB 2 (hd.s.size) ++ hd.s) W) := by
  have HX := Lib.hid (Nx.new W hd (.slice A n c))
  have H1 := Lib.hid (h.alloc (.cells (hd.cells (.slice A n c)) 28))
  have HK1 : Hid (Ok w0 b W (W.alloc (.cells (hd.cells (.slice A n c)) 28))) := Lib.hid (Ok.refl.alloc h.base _)
  have hne : W.heap.size ≠ b := by have := h.lt; omega
  obtain ⟨W1, hW1⟩ : ∃ W1, W1 = W.alloc (.cells (hd.cells (.slice A n c)) 28) := ⟨_, rfl⟩
  rw [← hW1] at H1 HK1
  replace HX : Hid (Nx W1 W.heap.size hd (.slice A n c)) := Lib.hid (by rw [hW1]; exact Nx.new W hd _)
  have HH := Lib.hid (fun V (hV : Wk w0 b M t V) => headC_calls (W := V) 2 (hd.s.size) (by decide) (by omega) hT hV hlen)
  have hq : W1.cell? ⟨W.heap.size, 7, none⟩ = some (.string hd.s) := HX.out.nine.2.2.2.2.2.2.2.1
  have hmxH : Tryz.prog.follows .mixedOrders = true := by kernel_rfl
  have hws : IntKind.u64.wrap (hd.s.size : Int) = (hd.s.size : Int) := IntWalk.u64_in _ (by omega)
  clear h hT
  simp only [Hd.cells] at hW1 ⊢
  go_enter Tryz.func112, Tryz.ntmps112
  go_wp2_with fail
  rw [← hW1]
  refine wp_region_held_drew (S := fun w' => w'.cell? ⟨W.heap.size, 7, none⟩ = some (.string hd.s)) hmxH hq ?_
  clear hW1 hq
  intro hHeld
  refine wpAnyH_take (i := 0) (v := .pointer (some ⟨b, 0, none⟩)) rfl (by kernel_rfl) (by kernel_rfl) (by kernel_rfl) (fun _ _ _ h => h) (Or.inl ⟨by rfl, by rintro w h0; go_simp⟩) hHeld ?_
  refine wpAnyH_take (i := 1) (v := .pointer (some ⟨b, 0, none⟩)) rfl (by kernel_rfl) (by kernel_rfl) (by kernel_rfl) (fun _ _ _ h => h) (Or.inl ⟨by rfl, by rintro w h0; go_simp⟩) hHeld ?_
  refine wpAnyH_take (i := 2) (v := .pointer (some ⟨b, 0, none⟩)) rfl (by kernel_rfl) (by kernel_rfl) (by kernel_rfl) (fun _ _ _ h => h) (Or.inl ⟨by rfl, by rintro w h0; go_simp⟩) hHeld ?_
  refine wpAnyH_take (i := 3) (v := .pointer (some ⟨W.heap.size, 7, none⟩)) rfl (by kernel_rfl) (by kernel_rfl) (by kernel_rfl) (fun _ _ _ h => h) (Or.inl ⟨by rfl, by rintro w h0; go_simp⟩) hHeld ?_
  refine wpAnyH_take (i := 4) (v := .string hd.s) rfl (by kernel_rfl) (by kernel_rfl) (by kernel_rfl) (fun _ _ _ h => h) (Or.inl ⟨by rfl, by rintro w h0; go_simp⟩) hHeld ?_
  refine wpAnyH_take (i := 5) (v := .int .i64 (hd.s.size : Int)) rfl (by kernel_rfl) (by kernel_rfl) (by kernel_rfl) (fun _ _ _ h => h) (Or.inl ⟨by rfl, by rintro w h0; go_simp⟩) hHeld ?_
  refine wpAnyH_take (i := 6) (v := .int .u64 (hd.s.size : Int)) rfl (by kernel_rfl) (by kernel_rfl) (by kernel_rfl) (fun _ _ _ h => h) (Or.inl ⟨by rfl, by rintro w h0; go_simp⟩) hHeld ?_
  refine wpAnyH_ready (rs := [7]) (by kernel_rfl) (by simp) ?_
  refine AllReadyH.cons rfl (fun K hK => ?_) AllReadyH.nil
  go_simp
  refine (HH.out _ H1.out.drew).mono ?_
  rintro o w2 ⟨rfl, h2, hk2⟩
  have H2 := Lib.hid h2
  have HK2 := Lib.hid (HK1.out.trans ((Ok.refl (b := b)).drew.trans hk2))
  have hq2 : w2.cell? ⟨W.heap.size, 7, none⟩ = some (.string hd.s) := (show Nx w2 W.heap.size hd (.slice A n c) from hk2.bx (show Nx W1.drew W.heap.size hd (.slice A n c) from HX.out) hne (by decide)).nine.2.2.2.2.2.2.2.1
  have HX2 : Hid (Nx w2 W.heap.size hd (.slice A n c)) := Lib.hid (hk2.bx (show Nx W1.drew W.heap.size hd (.slice A n c) from HX.out) hne (by decide))
  clear h2 hk2
  refine hK.out _ _ hq2 (fun hHeld => ?_)
  clear hK K
  refine wpAnyH_done (by kernel_rfl) ?_ _
  clear hHeld
  have hq3 : w2.cell? ⟨W.heap.size, 7, none⟩ = some (.string hd.s) := hq2
  go_wp2_with fail
  refine wp_region_held_drew (S := fun w' => w'.cell? ⟨W.heap.size, 7, none⟩ = some (.string hd.s)) hmxH hq3 ?_
  clear hq3
  intro hHeld
  refine wpAnyH_take (i := 0) (v := .pointer (some ⟨b, 0, none⟩)) rfl (by kernel_rfl) (by kernel_rfl) (by kernel_rfl) (fun _ _ _ h => h) (Or.inl ⟨by rfl, by rintro w h0; go_simp⟩) hHeld ?_
  refine wpAnyH_take (i := 1) (v := .pointer (some ⟨b, 0, none⟩)) rfl (by kernel_rfl) (by kernel_rfl) (by kernel_rfl) (fun _ _ _ h => h) (Or.inl ⟨by rfl, by rintro w h0; go_simp⟩) hHeld ?_
  refine wpAnyH_take (i := 2) (v := .pointer (some ⟨b, 0, none⟩)) rfl (by kernel_rfl) (by kernel_rfl) (by kernel_rfl) (fun _ _ _ h => h) (Or.inl ⟨by rfl, by rintro w h0; go_simp⟩) hHeld ?_
  refine wpAnyH_take (i := 3) (v := .pointer (some ⟨b, 0, none⟩)) rfl (by kernel_rfl) (by kernel_rfl) (by kernel_rfl) (fun _ _ _ h => h) (Or.inl ⟨by rfl, by rintro w h0; go_simp⟩) hHeld ?_
  refine wpAnyH_take (i := 4) (v := .pointer (some ⟨W.heap.size, 7, none⟩)) rfl (by kernel_rfl) (by kernel_rfl) (by kernel_rfl) (fun _ _ _ h => h) (Or.inl ⟨by rfl, by rintro w h0; go_simp⟩) hHeld ?_
  refine wpAnyH_take (i := 5) (v := .string hd.s) rfl (by kernel_rfl) (by kernel_rfl) (by kernel_rfl) (fun _ _ _ h => h) (Or.inl ⟨by rfl, by rintro w h0; go_simp⟩) hHeld ?_
  refine wpAnyH_ready (rs := [6]) (by kernel_rfl) (by simp) ?_
  refine AllReadyH.cons rfl (fun K hK => ?_) AllReadyH.nil
  go_simp
  have hsz : (t ++ headB 2 (hd.s.size)).size + hd.s.size ≤ 1099511627776 := by
    rw [ByteArray.size_append, headB_size]
    have := hext_le hd.s.size
    omega
  refine (wStr_calls hd.s H2.out.drew hsz).mono ?_
  rintro o w3 ⟨rfl, h3, hk3⟩
  have H3 := Lib.hid h3
  have HK3 := Lib.hid (HK2.out.trans ((Ok.refl (b := b)).drew.trans hk3))
  have hq4 : w3.cell? ⟨W.heap.size, 7, none⟩ = some (.string hd.s) := (show Nx w3 W.heap.size hd (.slice A n c) from hk3.bx (show Nx w2.drew W.heap.size hd (.slice A n c) from HX2.out) hne (by decide)).nine.2.2.2.2.2.2.2.1
  clear h3 hk3
  refine hK.out _ _ hq4 (fun hHeld => ?_)
  clear hK K
  refine wpAnyH_done (by kernel_rfl) ?_ _
  clear hHeld
  go_wp2
  go_end0
  exact ⟨rfl, H3.out, HK3.out⟩

end
end Go.Proofs.YtppapkpceejnkaaGreatDoor
