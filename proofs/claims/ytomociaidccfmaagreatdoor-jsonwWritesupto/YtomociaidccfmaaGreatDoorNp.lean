/- The writer in memory; what writes to it: copyCheck, WriteString, String. What writes words, and a new line. What begins a new line. -/
import Derived.Test.YtomociaidccfmaaGreatDoorT3
import Derived.Lib.Builder
import Derived.Lib.AppendStr
import Derived.Lib.OthersKept
import Derived.Shelf.Strings.Builder1
import Derived.DefersIn
import Derived.Deep.RegionHeld3
import Derived.Test.YtomociaidccfmaaGreatDoorMe

namespace Go.Proofs.YtomociaidccfmaaGreatDoor
open Go.RowKit

/-- A layout: what ends a line, what stands ahead of what is on it, what stands behind a key's mark. -/
structure Lay where
  e : ByteArray
  d : ByteArray
  k : ByteArray
/-- The parts of the writer in block b. -/
def partsE (b : Nat) : List MapEntry := [⟨.int .i64 1, .func (.func 28) #[.pointer (some ⟨b, 0, none⟩)] #[], 0⟩, ⟨.int .i64 2, .func (.func 29) #[.pointer (some ⟨b, 0, none⟩)] #[], 1⟩, ⟨.int .i64 3, .func (.func 30) #[.pointer (some ⟨b, 0, none⟩)] #[], 2⟩, ⟨.int .i64 5, .func (.func 31) #[.pointer (some ⟨b, 0, none⟩)] #[], 3⟩, ⟨.int .i64 7, .func (.func 32) #[.pointer (some ⟨b, 0, none⟩)] #[], 4⟩, ⟨.int .i64 8, .func (.func 33) #[.pointer (some ⟨b, 0, none⟩)] #[], 5⟩]
def partsN (b i : Nat) : Array MapEntry := ((partsE b).take i).toArray
def wcs (p v : Value) (L : Lay) (i : Int) (M : Value) : Array Value := #[p, v, .string L.e, .string L.d, .string L.k, .int .i64 i, M]
/-- A writer lies in block b; its text is t; nothing that w0 held has turned. -/
structure Wp (w0 : World) (b : Nat) (p v : Value) (L : Lay) (i : Int) (M : Value) (t : ByteArray) (W : World) : Prop where
  hb : w0.heap.size ≤ b
  hw : Below w0.heap.size w0 W
  bx : Bx W b (wcs p v L i M) 55
  own : W.ownsRow w0.heap.size 5 1 v t.size (Lib.strCells t)
/-- .. whose parts lie in block M. -/
def Wr (w0 : World) (b M : Nat) (L : Lay) (i : Int) (t : ByteArray) (W : World) : Prop :=
  W.heap[M]? = some (.map (partsN b 6) 6) ∧ ∃ p v, (p = .pointer none ∨ p = .pointer (some ⟨b, 0, none⟩)) ∧ Wp w0 b p v L i (.map (some M)) t W
/-- What a part leaves as it was: what w0 held, and all that is neither the writer nor bytes. -/
def Ok (w0 : World) (b : Nat) (W W' : World) : Prop := Below w0.heap.size W W' ∧ W.heap.size ≤ W'.heap.size ∧ Lib.OthersKept 5 (some b) W W'

section
variable {w0 W W' : World} {b M : Nat} {p v : Value} {L : Lay} {i : Int} {m : Value} {t : ByteArray}
theorem Ok.refl : Ok w0 b W W := ⟨Below.refl _ _, Nat.le_refl _, Lib.OthersKept.refl _ _ _⟩
theorem Ok.trans {C : World} (h : Ok w0 b W W') (k : Ok w0 b W' C) : Ok w0 b W C := ⟨h.1.trans k.1, Nat.le_trans h.2.1 k.2.1, h.2.2.trans k.2.2⟩
theorem Ok.alloc (h : Ok w0 b W W') (hw : w0.heap.size ≤ W'.heap.size) (o : Obj) : Ok w0 b W (W'.alloc o) := ⟨h.1.alloc hw o, Nat.le_trans h.2.1 (by simp), h.2.2.alloc o⟩
theorem Ok.drew (h : Ok w0 b W W') : Ok w0 b W W'.drew := ⟨h.1.drew, h.2.1, h.2.2.drew⟩
theorem Ok.set (h : Ok w0 b W W') (hb : w0.heap.size ≤ b) (j : Nat) (x : Value) : Ok w0 b W (W'.setCell ⟨b, j, none⟩ x) := ⟨h.1.setCell (p := ⟨b, j, none⟩) hb x, by rw [World.size_setCell]; exact h.2.1, h.2.2.setCell ⟨b, j, none⟩ rfl x⟩
theorem Ok.obj {k : Nat} {o : Obj} (h : Ok w0 b W W') (hk : W.heap[k]? = some o) (hb : k ≠ b) (ho : ∀ c fz, o ≠ .cells c 5 fz) : W'.heap[k]? = some o := h.2.2 k o hk (fun e => hb (by cases e; rfl)) ho
theorem Ok.bx {k : Nat} {cs : Array Value} {T : TypeId} (h : Ok w0 b W W') (hk : Bx W k cs T) (hb : k ≠ b) (ho : T ≠ 5) : Bx W' k cs T := h.obj hk hb (fun c fz e => by cases e; exact ho rfl)
/-- What was below stands. -/
theorem Ok.of_below (h : Below W.heap.size W W') (hw : w0.heap.size ≤ W.heap.size) : Ok w0 b W W' := ⟨h.mono hw, h.size, fun k _ hk _ _ => (h.block k (Array.getElem?_eq_some_iff.1 hk).1).trans hk⟩
theorem bx_type {k : Nat} {cs cs' : Array Value} {T T' : TypeId} {fz : Nat × Nat} (h : Bx W k cs T) (h' : W.heap[k]? = some (.cells cs' T' fz)) : T' = T := by
  rw [Bx, h'] at h
  cases h
  rfl
theorem Wp.row_ne (h : Wp w0 b p v L i m t W) {k : Nat} (e : v.ownBlock = some k) : k ≠ b ∧ w0.heap.size ≤ k := by
  rcases h.own.2 with ⟨rfl, _⟩ | ⟨g, cap, cur, rfl, h1, h2, _⟩
  · cases e
  · cases e
    exact ⟨fun e => absurd (bx_type h.bx (by rw [← e]; exact h2)) (by decide), h1⟩
theorem Wp.lt (h : Wp w0 b p v L i m t W) : b < W.heap.size := h.bx.lt
theorem Wp.base (h : Wp w0 b p v L i m t W) : w0.heap.size ≤ W.heap.size := h.hw.size
/-- What leaves all blocks alone that there are leaves a writer alone. -/
theorem Wp.below (h : Wp w0 b p v L i m t W) (hb : Below W.heap.size W W') : Wp w0 b p v L i m t W' :=
  ⟨h.hb, h.hw.trans (hb.mono h.base), h.bx.below hb, owns_below h.own hb⟩
theorem Wr.below (h : Wr w0 b M L i t W) (hb : Below W.heap.size W W') : Wr w0 b M L i t W' := by
  obtain ⟨h1, p, v, hp, h2⟩ := h
  exact ⟨(hb.block _ (Array.getElem?_eq_some_iff.1 h1).1).trans h1, p, v, hp, h2.below hb⟩
theorem Wr.base (h : Wr w0 b M L i t W) : w0.heap.size ≤ W.heap.size := by
  obtain ⟨_, p, v, hp, h2⟩ := h
  exact h2.base
theorem Wr.hb (h : Wr w0 b M L i t W) : w0.heap.size ≤ b := by
  obtain ⟨_, p, v, hp, h2⟩ := h
  exact h2.hb
theorem Wr.lt (h : Wr w0 b M L i t W) : b < W.heap.size := by
  obtain ⟨_, p, v, hp, h2⟩ := h
  exact h2.lt
theorem Wr.hw (h : Wr w0 b M L i t W) : Below w0.heap.size w0 W := by
  obtain ⟨_, p, v, hp, h2⟩ := h
  exact h2.hw
end
theorem tyB : (Tryz.prog.info? 50).map (·.size) = some 2 := by kernel_rfl
theorem liesB : liesAt Tryz.prog Tryz.prog.depth 55 (7 / Tryz.prog.cellsOf 55) 0 50 1 = true := by kernel_rfl
set_option maxRecDepth 100000 in
theorem copyCheck_used (b : Nat) (w : World) (h0 : w.cell? ⟨b, 0, none⟩ = some (.pointer (some ⟨b, 0, none⟩))) :
    Calls Tryz.prog 100 #[.pointer (some ⟨b, 0, none⟩)] w fun e w' => e = .returned (.tuple #[]) ∧ w' = w := by
  obtain ⟨j, hj, _⟩ := Option.map_eq_some_iff.1 tyB
  go_enter Tryz.func100, Tryz.ntmps100
  go_wp2
  rw [Lib.run_neq_ptr_same w _ Tryz.underlying47 hj]
  go_wp2
  go_end0
  exact ⟨rfl, rfl⟩
set_option maxHeartbeats 1000000 in
set_option maxRecDepth 100000 in
theorem copyCheck_fresh (b : Nat) (w : World) (h0 : w.cell? ⟨b, 0, none⟩ = some (.pointer none)) (hsh : w.shape? b = some (55, 7)) (hfz : w.frozen? ⟨b, 0, none⟩ = false) :
    Calls Tryz.prog 100 #[.pointer (some ⟨b, 0, none⟩)] w fun e w' => e = .returned (.tuple #[]) ∧ w' = w.setCell ⟨b, 0, none⟩ (.pointer (some ⟨b, 0, none⟩)) := by
  obtain ⟨j, hj, hjs⟩ := Option.map_eq_some_iff.1 tyB
  go_enter Tryz.func100, Tryz.ntmps100
  go_wp2
  rw [Lib.run_to_unsafe w ⟨b, 0, none⟩ Tryz.underlying47 Tryz.underlying159 hj (by rw [hjs]; decide) hsh (show 0 < 7 by decide)]
  simp only [Result.andThen]
  rw [Oper.upon_value]
  go_wp2
  rw [run_callFunc_extern Tryz.func119 (by kernel_rfl) (by kernel_rfl) (by kernel_rfl) (e := Extern.AbiNoEscape.same) (by kernel_rfl)]
  rw [Lib.run_noEscape]
  simp only [Result.andThen]
  rw [Oper.upon_value]
  go_wp2
  rw [Lib.run_from_unsafe w ⟨b, 0, none⟩ Tryz.underlying159 Tryz.underlying47 hj hsh liesB]
  simp only [Result.andThen]
  rw [Oper.upon_value]
  go_wp2
  go_end0
  exact ⟨rfl, rfl⟩
theorem copyCheck_calls {w0 : World} {b : Nat} {p v : Value} {L : Lay} {i : Int} {m : Value} {t : ByteArray} {W : World} (hp : p = .pointer none ∨ p = .pointer (some ⟨b, 0, none⟩)) (h : Wp w0 b p v L i m t W) :
    Calls Tryz.prog 100 #[.pointer (some ⟨b, 0, none⟩)] W fun e w' => e = .returned (.tuple #[]) ∧ Wp w0 b (.pointer (some ⟨b, 0, none⟩)) v L i m t w' ∧ Ok w0 b W w' := by
  rcases hp with rfl | rfl
  · refine (copyCheck_fresh b W (h.bx.c 0 rfl) (by simp [World.shape?, show W.heap[b]? = _ from h.bx, wcs]) (h.bx.f 0)).mono ?_
    rintro e w' ⟨rfl, rfl⟩
    refine ⟨rfl, ⟨h.hb, h.hw.setCell (p := ⟨b, 0, none⟩) h.hb _, h.bx.set 0 _, ?_⟩, Ok.refl.set h.hb 0 _⟩
    refine h.own.kept (row := some b) ⟨rfl, rfl, rfl, by simp [World.setCell], fun k _ hk => Below.heap_setCell _ _ _ _ (fun e => hk (by simp [e]))⟩ ?_
    exact .inr fun e => (h.row_ne e).1 rfl
  · refine (copyCheck_used b W (h.bx.c 0 rfl)).mono ?_
    rintro e w' ⟨rfl, rfl⟩
    exact ⟨rfl, h, Ok.refl⟩
theorem info8 : (Tryz.prog.info? 5).map (fun i => (i.zero, i.size, i.bytes)) = some (some (.int .u8 0), 1, 1) := by kernel_rfl
theorem cells8u : Tryz.prog.cellsOf 5 = 1 := by kernel_rfl
theorem strCells_app (s t : ByteArray) : Lib.strCells (s ++ t) = Lib.strCells s ++ Lib.strCells t := by
  simp [Lib.strCells, ByteArray.data_append]
set_option maxHeartbeats 1000000 in
set_option maxRecDepth 100000 in
theorem WriteString_calls {w0 : World} {b M : Nat} {L : Lay} {i : Int} {t : ByteArray} {W : World} (s : ByteArray) (h : Wr w0 b M L i t W) (hlen : t.size + s.size ≤ 1099511627776) :
    Calls Tryz.prog 81 #[.pointer (some ⟨b, 0, none⟩), .string s] W fun e w' => e = .returned (.tuple #[.int .i64 s.size, .nilIface]) ∧ Wr w0 b M L i (t ++ s) w' ∧ Ok w0 b W w' := by
  obtain ⟨i0, hi, hz0, hz1, hz2⟩ := info_parts info8
  obtain ⟨hM, p, v, hp, h⟩ := h
  have HM := Lib.hid hM
  have HMB : Hid (M ≠ b) := Lib.hid (fun e => by subst e; have := h.bx; rw [Bx, hM] at this; cases this)
  clear hM
  go_enter Tryz.func81, Tryz.ntmps81
  go_wp2_with (go_at_call 100; refine (copyCheck_calls hp h).mono ?_)
  rintro e w1 ⟨rfl, h1, hk1⟩
  have hown := h1.own
  have c0 := h1.bx.c 0 rfl
  have c1 := h1.bx.c 1 rfl
  have HW1 := Lib.hid h1
  have HK1 := Lib.hid hk1
  clear h1 hk1 h hp
  go_wp2_with (at_builtin; refine Lib.wpList_append_own_string _ rfl _ _ 48 9 rfl w0.heap.size 5 i0 Tryz.underlying48 Tryz.underlying9 hi hz0 hz1 hz2 _ _ _ rfl hown s rfl ?c3 ?c4 ?c5 ?_)
  case c3 => unfold maxLen; omega
  case c4 => omega
  case c5 => exact HW1.out.base
  intro v' w2 hown' hgrow _
  have HO := Lib.hid hown'
  have HG := Lib.hid hgrow
  have hb2 : Bx w2 b (wcs (.pointer (some ⟨b, 0, none⟩)) v L i (.map (some M))) 55 := (hgrow.block b HW1.out.lt (fun e => (HW1.out.row_ne e.symm).1 rfl)).trans HW1.out.bx
  have d0 := hb2.c 0 rfl
  have d1 := hb2.c 1 rfl
  have f1 := hb2.f 1
  have HB2 := Lib.hid hb2
  obtain ⟨ao, n', cap, rfl⟩ : ∃ ao n' cap, v' = .slice ao n' cap := by
    rcases hown'.2 with ⟨hv, _⟩ | ⟨g, cap, cur, hv, _⟩
    · exact ⟨_, _, _, hv⟩
    · exact ⟨_, _, _, hv⟩
  clear hown' hgrow hb2 hown c0 c1
  go_wp2
  go_ret2
  have hrow : ∀ g, v.ownBlock = some g → ∃ c fz, w1.heap[g]? = some (.cells c 5 fz) := by
    intro g hg
    rcases HW1.out.own.2 with ⟨rfl, _⟩ | ⟨g', cap, cur, rfl, _, h2, _⟩
    · cases hg
    · cases hg; exact ⟨_, _, h2⟩
  have hok : Ok w0 b W w2 := HK1.out.trans ⟨(Below.refl _ _).grown HG.out HW1.out.base (fun k hk => (HW1.out.row_ne hk).2), HG.out.size, (Lib.OthersKept.refl _ _ _).grown HG.out hrow⟩
  refine ⟨rfl, ⟨?_, _, _, .inr rfl, ⟨HW1.out.hb, ?_, HB2.out.set 1 _, ?_⟩⟩, hok.set HW1.out.hb 1 _⟩
  · exact (hok.set HW1.out.hb 1 _).obj HM.out HMB.out (fun c fz e => by cases e)
  · exact (HW1.out.hw.grown HG.out HW1.out.base (fun k hk => (HW1.out.row_ne hk).2)).setCell (p := ⟨b, 1, none⟩) HW1.out.hb _
  · rw [strCells_app, ByteArray.size_append]
    refine HO.out.kept (row := some b) ⟨rfl, rfl, rfl, by simp [World.setCell], fun k _ hk => Below.heap_setCell _ _ _ _ (fun e => hk (by simp [e]))⟩ ?_
    refine .inr fun e => ?_
    rcases HO.out.2 with ⟨hv, _⟩ | ⟨g', cap', cur, hv, _, h2, _⟩
    · rw [hv] at e; cases e
    · rw [hv] at e
      exact absurd (bx_type HB2.out (by rw [← Option.some.inj e]; exact h2)) (by decide)
set_option maxHeartbeats 1000000 in
set_option maxRecDepth 100000 in
theorem String_calls {w0 : World} {b : Nat} {p v : Value} {L : Lay} {i : Int} {m : Value} {t : ByteArray} {W : World} (h : Wp w0 b p v L i m t W) (h0 : 0 < t.size) :
    Calls Tryz.prog 19 #[.pointer (some ⟨b, 0, none⟩)] W fun e w' => e = .returned (.string t) ∧ Below w0.heap.size W w' := by
  obtain ⟨g, cap, cur, rfl, hbg, hg, hnc, hcm, hcs, htake⟩ : ∃ g cap cur, v = .slice (some ⟨g, 0, none⟩) t.size cap ∧ w0.heap.size ≤ g ∧ W.heap[g]? = some (.cells cur 5 (0, 0)) ∧ t.size ≤ cap ∧ cap ≤ maxLen ∧ cur.size = cap * 1 ∧ cur.toList.take (t.size * 1) = Lib.strCells t := by
    rcases h.own.2 with ⟨_, hz⟩ | ⟨g, cap, cur, hv, r⟩
    · omega
    · exact ⟨g, cap, cur, hv, r⟩
  have c1 : W.drew.cell? ⟨b, 1, none⟩ = some (.slice (some ⟨g, 0, none⟩) t.size cap) := h.bx.c 1 rfl
  have hSD : (Builtin.unsafeSliceData_ #[48] 65 #[.slice (some ⟨g, 0, none⟩) t.size cap]).run Tryz.prog W.drew = .ok (.pointer (some ⟨g, 0, none⟩)) W.drew :=
    Lib.run_unsafeSliceData_row _ _ _ _ _ _ (by omega)
  have hlen : t.data.toList.length = t.size := by rw [Array.length_toList]; rfl
  have hUS : (Builtin.unsafeString_ #[65, 3] 9 #[.pointer (some ⟨g, 0, none⟩), .int .i64 t.size]).run Tryz.prog W.drew = .ok (.string t) (W.drew.freeze ⟨g, 0, none⟩ t.size) := by
    have := Lib.run_unsafeString_row (P := Tryz.prog) W.drew 65 3 9 5 Tryz.underlying65 cells8u g cur.size (by have hg' : W.drew.heap[g]? = some (.cells cur 5 (0, 0)) := hg; simp [World.shape?, hg']) t.data.toList (fun e => by rw [e] at hlen; simp at hlen; omega) (by omega) (by unfold maxLen at hcm; omega) ?_
    · rw [hlen] at this
      exact this
    · intro j x hx
      have := h.own.cells (g := g) rfl j (.int .u8 x.toNat) (by simp only [Lib.strCells, List.getElem?_map, hx]; rfl)
      exact this
  have HH := Lib.hid h
  have HBG := Lib.hid hbg
  clear h hg hcs htake
  go_enter Tryz.func19, Tryz.ntmps19
  go_wp2
  go_region
  all_goals (go_wp2; go_ret; exact ⟨rfl, Lib.below_freeze (Below.drew (Below.refl _ W)) (p := ⟨g, 0, none⟩) HBG.out _⟩)
end Go.Proofs.YtomociaidccfmaaGreatDoor

namespace Go.Proofs.YtomociaidccfmaaGreatDoor
open Go.RowKit

/-- A function's contract from its body, called or deferred. -/
theorem both_of_wp {P : Program} {f : FuncId} {fn : Func} {c : Code} {args : Array Value} {w : World} {R : Ending → World → Prop} (hf : P.funcs[f]? = some fn) (hb : fn.body = some c)
    (h : c.wp P (bodyPost P fn R) { tmps := args ++ Array.replicate (fn.ntmps - args.size) undef, defers := [] } w) :
    Calls P f args w R ∧ ∀ (n : Nat) (u : FrameMode), CallsDIn Fence.wide n P f args u w fun e u' w' => u' = u ∧ R e w' :=
  ⟨calls_of_wp hf hb h, fun _ _ => callsDIn_of_wp hf hb trivial (wpIn_wide.2 h)⟩
/-- What a writing method leaves. -/
def PutP (w0 : World) (b M : Nat) (L : Lay) (i : Int) (t : ByteArray) (W : World) (o : Ending) (w' : World) : Prop := o = .returned (.tuple #[]) ∧ Wr w0 b M L i t w' ∧ Ok w0 b W w'
/-- .. called or deferred. -/
def Both (f : FuncId) (args : Array Value) (w : World) (R : Ending → World → Prop) : Prop := Calls Tryz.prog f args w R ∧ ∀ (n : Nat) (u : FrameMode), CallsDIn Fence.wide n Tryz.prog f args u w fun e u' w' => u' = u ∧ R e w'
set_option maxRecDepth 100000 in
theorem put1_both {w0 : World} {b M : Nat} {L : Lay} {i : Int} {t : ByteArray} {W : World} (s : ByteArray) (S : Nat) (h : Wr w0 b M L i t W) (hS : Bx W S #[.string s] 9) (hlen : t.size + s.size ≤ 1099511627776) :
    Both 51 #[.pointer (some ⟨b, 0, none⟩), .slice (some ⟨S, 0, none⟩) 1 1] W (PutP w0 b M L i (t ++ s) W) := by
  have H := Lib.hid h
  have c0 := hS.c 0 rfl
  clear h hS
  refine both_of_wp Tryz.func51 rfl ?_
  simp only [Tryz.ntmps51, List.size_toArray, List.length_cons, List.length_nil, Nat.reduceAdd, Nat.reduceSub, Array.replicate_succ, Array.replicate_zero, List.push_toArray, List.append_toArray, List.nil_append, List.cons_append]
  go_wp2
  refine wp_loop_rounds 2 ?_
  rw [rounds_succ]
  go_wp2_with fail
  refine (WriteString_calls s H.out hlen).mono ?_
  rintro e w1 ⟨rfl, h1, hk1⟩
  have H1 := Lib.hid h1
  have HK1 := Lib.hid hk1
  clear h1 hk1 c0
  go_wp2
  rw [rounds_succ]
  go_wp2
  go_end0
  exact ⟨rfl, H1.out, HK1.out⟩
set_option maxRecDepth 100000 in
theorem put2_both {w0 : World} {b M : Nat} {L : Lay} {i : Int} {t : ByteArray} {W : World} (s r : ByteArray) (S : Nat) (h : Wr w0 b M L i t W) (hS : Bx W S #[.string s, .string r] 9) (hne : S ≠ b) (hlen : t.size + s.size + r.size ≤ 1099511627776) :
    Both 51 #[.pointer (some ⟨b, 0, none⟩), .slice (some ⟨S, 0, none⟩) 2 2] W (PutP w0 b M L i (t ++ s ++ r) W) := by
  have H := Lib.hid h
  have HS := Lib.hid hS
  have c0 := hS.c 0 rfl
  clear h hS
  refine both_of_wp Tryz.func51 rfl ?_
  simp only [Tryz.ntmps51, List.size_toArray, List.length_cons, List.length_nil, Nat.reduceAdd, Nat.reduceSub, Array.replicate_succ, Array.replicate_zero, List.push_toArray, List.append_toArray, List.nil_append, List.cons_append]
  go_wp2
  refine wp_loop_rounds 3 ?_
  rw [rounds_succ]
  go_wp2_with fail
  refine (WriteString_calls s H.out (by omega)).mono ?_
  rintro e w1 ⟨rfl, h1, hk1⟩
  have H1 := Lib.hid h1
  have HK1 := Lib.hid hk1
  have c1 := (hk1.bx HS.out hne (by decide)).c 1 rfl
  clear h1 hk1 c0
  go_wp2
  rw [rounds_succ]
  go_wp2_with fail
  refine (WriteString_calls r H1.out (by rw [ByteArray.size_append]; omega)).mono ?_
  rintro e w2 ⟨rfl, h2, hk2⟩
  have H2 := Lib.hid h2
  have HK2 := Lib.hid hk2
  clear h2 hk2 c1
  go_wp2
  rw [rounds_succ]
  go_wp2
  go_end0
  exact ⟨rfl, H2.out, HK1.out.trans HK2.out⟩
end Go.Proofs.YtomociaidccfmaaGreatDoor

namespace Go.Proofs.YtomociaidccfmaaGreatDoor
open Go.RowKit

/-- So often. -/
def repS (s : ByteArray) (n : Nat) : ByteArray := ⟨(Lib.repeatL s.data.toList n).toArray⟩
/-- A line's end, and what stands ahead of what is on the next one. -/
def nlB (L : Lay) (n : Nat) : ByteArray := L.e ++ repS L.d n
theorem rep_calls (s : ByteArray) (n : Nat) (w : World) (hn : n ≤ 100000) (hs : s.size ≤ 100000) : Calls Tryz.prog 107 #[.string s, .int .i64 (n : Int)] w fun o w' => o = .returned (.string (repS s n)) ∧ Below w.heap.size w w' :=
  Tryz.strings_Repeat s n w (by omega) (by have := Nat.mul_le_mul hs hn; omega)
theorem Wp.seven {w0 : World} {b : Nat} {p v : Value} {L : Lay} {i : Int} {m : Value} {t : ByteArray} {W : World} (h : Wp w0 b p v L i m t W) :
    W.cell? ⟨b, 0, none⟩ = some p ∧ W.cell? ⟨b, 1, none⟩ = some v ∧ W.cell? ⟨b, 2, none⟩ = some (.string L.e) ∧ W.cell? ⟨b, 3, none⟩ = some (.string L.d) ∧ W.cell? ⟨b, 4, none⟩ = some (.string L.k) ∧ W.cell? ⟨b, 5, none⟩ = some (.int .i64 i) ∧ W.cell? ⟨b, 6, none⟩ = some m :=
  ⟨h.bx.c 0 rfl, h.bx.c 1 rfl, h.bx.c 2 rfl, h.bx.c 3 rfl, h.bx.c 4 rfl, h.bx.c 5 rfl, h.bx.c 6 rfl⟩
theorem Wr.held {w0 : World} {b M : Nat} {L : Lay} {i : Int} {t : ByteArray} {W : World} (h : Wr w0 b M L i t W) :
    W.cell? ⟨b, 2, none⟩ = some (.string L.e) ∧ W.cell? ⟨b, 3, none⟩ = some (.string L.d) ∧ W.cell? ⟨b, 4, none⟩ = some (.string L.k) ∧ W.cell? ⟨b, 5, none⟩ = some (.int .i64 i) ∧ W.cell? ⟨b, 6, none⟩ = some (.map (some M)) := by
  obtain ⟨_, p, v, _, h2⟩ := h
  obtain ⟨_, _, h⟩ := h2.seven
  exact h
theorem Wr.f {w0 : World} {b M : Nat} {L : Lay} {i : Int} {t : ByteArray} {W : World} (h : Wr w0 b M L i t W) (j : Nat) : W.frozen? ⟨b, j, none⟩ = false := by
  obtain ⟨_, p, v, _, h2⟩ := h
  exact h2.bx.f j
theorem Wr.drew {w0 : World} {b M : Nat} {L : Lay} {i : Int} {t : ByteArray} {W : World} (h : Wr w0 b M L i t W) : Wr w0 b M L i t W.drew := h.below (Below.refl _ _).drew
theorem Wr.alloc {w0 : World} {b M : Nat} {L : Lay} {i : Int} {t : ByteArray} {W : World} (h : Wr w0 b M L i t W) (o : Obj) : Wr w0 b M L i t (W.alloc o) := h.below ((Below.refl _ _).alloc (Nat.le_refl _) o)
/-- Within more lists, or fewer. -/
theorem Wr.within {w0 : World} {b M : Nat} {L : Lay} {i : Int} {t : ByteArray} {W : World} (h : Wr w0 b M L i t W) (n : Int) : Wr w0 b M L n t (W.setCell ⟨b, 5, none⟩ (.int .i64 n)) := by
  obtain ⟨hM, p, v, hp, h⟩ := h
  have hne : M ≠ b := fun e => by subst e; have := h.bx; rw [Bx, hM] at this; cases this
  refine ⟨(Below.heap_setCell _ ⟨b, 5, none⟩ _ M hne).trans hM, p, v, hp, ⟨h.hb, h.hw.setCell (p := ⟨b, 5, none⟩) h.hb _, h.bx.set 5 _, ?_⟩⟩
  refine h.own.kept (row := some b) ⟨rfl, rfl, rfl, by simp [World.setCell], fun k _ hk => Below.heap_setCell _ _ _ _ (fun e => hk (by simp [e]))⟩ ?_
  exact .inr fun e => (h.row_ne e).1 rfl
set_option maxRecDepth 100000 in
set_option maxHeartbeats 1000000 in
theorem newLine_both {w0 : World} {b M : Nat} {L : Lay} {i : Int} {t : ByteArray} {W : World} (m : Int) (n : Nat) (h : Wr w0 b M L i t W) (hm : wrap64 (i + m) = (n : Int)) (hn : n ≤ 100000) (hd : L.d.size ≤ 100000) (hlen : t.size + (nlB L n).size ≤ 1099511627776) :
    Both 87 #[.pointer (some ⟨b, 0, none⟩), .int .i64 m] W (PutP w0 b M L n (t ++ nlB L n) W) := by
  have H := Lib.hid h
  obtain ⟨x2, x3, x4, x5, x6⟩ := h.held
  have f5 := h.f 5
  have hlt := h.lt
  have HD := Lib.hid hd
  have HL : Hid (t.size + L.e.size + (repS L.d n).size ≤ 1099511627776) := Lib.hid (by rw [nlB, ByteArray.size_append] at hlen; omega)
  clear h x6 hd hlen
  refine both_of_wp Tryz.func87 rfl ?_
  simp only [Tryz.ntmps87, List.size_toArray, List.length_cons, List.length_nil, Nat.reduceAdd, Nat.reduceSub, Array.replicate_succ, Array.replicate_zero, List.push_toArray, List.append_toArray, List.nil_append, List.cons_append]
  go_wp2_with fail
  obtain ⟨W1, hW1⟩ : ∃ W1, W1 = W.setCell ⟨b, 5, none⟩ (.int .i64 (n : Int)) := ⟨_, rfl⟩
  have H1 : Hid (Wr w0 b M L n t W1) := Lib.hid (by rw [hW1]; exact H.out.within _)
  have HK : Hid (Ok w0 b W W1) := Lib.hid (by rw [hW1]; exact Ok.refl.set H.out.hb 5 _)
  first | rw [← hW1] | skip
  clear hW1 x2 x3 x4 x5 f5
  obtain ⟨x2, x3, x4, x5, x6⟩ := H1.out.held
  have hlt1 := H1.out.lt
  clear x4 x6
  go_region_held3 (fun w' => w'.cell? ⟨b, 2, none⟩ = some (.string L.e) ∧ w'.cell? ⟨b, 3, none⟩ = some (.string L.d) ∧ w'.cell? ⟨b, 5, none⟩ = some (.int .i64 (n : Int)))
    (first
      | exact ⟨x2, x3, x5⟩
      | exact ⟨(H1.out.drew.below hbr).held.1, (H1.out.drew.below hbr).held.2.1, (H1.out.drew.below hbr).held.2.2.2.1⟩
      | exact ⟨((H1.out.drew.below hbr).alloc _).held.1, ((H1.out.drew.below hbr).alloc _).held.2.1, ((H1.out.drew.below hbr).alloc _).held.2.2.2.1⟩
      | exact ⟨hp1.held.1, hp1.held.2.1, hp1.held.2.2.2.1⟩)
    (first
      | (go_at_call 107; refine (rep_calls L.d n _ hn HD.out).mono ?_; rintro o wr ⟨rfl, hbr⟩)
      | (go_at_call 51; refine ((put2_both L.e (repS L.d n) _ ((H1.out.drew.below hbr).alloc _) (Bx.new _ _ _) (by have := (H1.out.drew.below hbr).lt; omega) HL.out).1).mono ?_; rintro o wp ⟨rfl, hp1, hk1⟩))
  all_goals
    go_end0
    have hk2 : Ok w0 b W1 wr := (Ok.refl (W := W1)).drew.trans (Ok.of_below hbr H1.out.drew.base)
    refine ⟨rfl, by rw [nlB, ← ByteArray.append_assoc]; exact hp1, (HK.out.trans (hk2.alloc (H1.out.drew.below hbr).base _)).trans hk1⟩
end Go.Proofs.YtomociaidccfmaaGreatDoor
