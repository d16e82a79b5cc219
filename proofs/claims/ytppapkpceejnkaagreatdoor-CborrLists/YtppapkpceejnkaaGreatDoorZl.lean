/- Marks, and what stays behind them. The program's own: list. The program's own: joined, bytes, text of what is not open; a chunk. The program's own: array, members, tag. The program's own: tag. -/
import Derived.Test.YtppapkpceejnkaaGreatDoorZj
import Derived.Test.YtppapkpceejnkaaGreatDoorZk
import Derived.Test.YtppapkpceejnkaaGreatDoorZi
import Derived.Deep.RegionHeld3
namespace Go.Proofs.YtppapkpceejnkaaGreatDoor
open Go.RowKit

attribute [local go_sem] Oper.semAt_some

theorem door_markC {fn : Func} {tmps : Array Value} {R : Ending → World → Prop} {n : Nat} {ds : List Deferred} {w : World} {D : Nat} (hD : w.heap[D]? = some (.deferred (some [])))
    (h : LeavesInM Fence.wide n Tryz.prog fn tmps R ds .returning (w.putObj D (.deferred none))) : LeavesInM Fence.wide n Tryz.prog fn tmps R ({ target := .collected D, args := #[] } :: ds) .returning w :=
  ⟨by simp, .inl ⟨_, _, rfl, run_takeDeferred hD, h⟩⟩
theorem Rd.keptR {w0 V V' : World} {b wn : Nat} {l : List UInt8} {row : Option Nat} (h : Rd w0 b l wn V) (hg : V.grownBy V' row) (hr : ∀ r, row = some r → w0.heap.size ≤ r ∧ ∃ o : Obj, V.heap[r]? = some o ∧ o.isCells = false) : Rd w0 b l wn V' :=
  ⟨h.hb, h.hw.grown hg h.base (fun k e => (hr k e).1), bx_kept h.bx hg (fun r e => (hr r e).2)⟩
theorem Kc.keptR {W0 V V' : World} {b : Nat} {row : Option Nat} (h : Kc b W0 V) (hg : V.grownBy V' row) (hr : ∀ r, row = some r → ∃ o : Obj, V.heap[r]? = some o ∧ o.isCells = false) : Kc b W0 V' :=
  h.trans ⟨hg.size, fun i cs T fr hi _ _ => (hg.block i (Array.getElem?_eq_some_iff.1 hi).1 (fun e => by
    obtain ⟨o, ho, hc⟩ := hr i e.symm
    rw [hi] at ho
    cases ho
    cases hc)).trans hi⟩
theorem gr_keptR {Wf V V' : World} {b : Nat} {row : Option Nat} (h : Wf.grownBy V (some b)) (hg : V.grownBy V' row) (hr : ∀ r, row = some r → Wf.heap.size ≤ r) : Wf.grownBy V' (some b) :=
  ⟨hg.os.trans h.os, hg.tape.trans h.tape, hg.output.trans h.output, Nat.le_trans h.size hg.size, fun k hk hn => (hg.block k (Nat.lt_of_lt_of_le hk h.size) (fun e => by have := hr k e.symm; omega)).trans (h.block k hk hn)⟩
theorem RunsAt.mono {α : Type} {F : Fence} {n : Nat} {P : Program} {gf : Nat} {lb : Array Value} {enc : α → Array Value} {b0 : Nat} {I : List α → World → Prop} {Y : List α → α → World → Prop} {Ix : α → Code → World → Prop} {D D' : World → Prop} {L : Code → World → Prop} {W1 : World} (h : RunsAt F n P gf lb enc b0 I Y Ix D L W1) (hD : ∀ V, D V → D' V) : RunsAt F n P gf lb enc b0 I Y Ix D' L W1 := by
  intro l B Bx h1 h2 h3 h4 h5
  refine (h l B Bx h1 h2 h3 h4 h5).mono ?_
  rintro e V ⟨hv, h6 | h6⟩
  · exact ⟨hv, .inl ⟨h6.1, hD V h6.2⟩⟩
  · exact ⟨hv, .inr h6⟩
end Go.Proofs.YtppapkpceejnkaaGreatDoor
namespace Go.Proofs.YtppapkpceejnkaaGreatDoor
open Go.RowKit

attribute [local go_sem] Oper.semAt_some

/-- What the list's own loop keeps. -/
def JB (Wf : World) (b r0 : Nat) (kind : Int) (xs : List Yt) (V : World) : Prop := ∃ x ys, LJ Wf b r0 kind (foY xs) x ys V
/-- What it leaves where there is an error. -/
def JXB (w0 Wf : World) (b wn r0 : Nat) (e : Nat) (c : Code) (V : World) : Prop := c = .exit 0 ∧ Wf.grownBy V (some b) ∧ Nx V (r0 + 1) zH (.slice none 0 0) ∧ Bx V (r0 + 3) #[fltV (e : Int)] 57 ∧ ∃ r, Rd w0 b r wn V
theorem iy_own {w0 Wf W0 : World} {b wn r0 : Nat} {l0 : List UInt8} {kind : Int} {B : Nat} (h1 : w0.heap.size ≤ B) (h2 : Wf.heap.size ≤ B) : OwnFrom B (IY w0 b wn l0 W0 (JB Wf b r0 kind)) := by
  rintro xs V V' row ⟨⟨x, ys, i1⟩, i2, i3, i4, i5⟩ hg hr
  exact ⟨⟨x, ys, i1.kept hg (fun r e => ⟨Nat.le_trans h2 (hr r e).1, (hr r e).2⟩)⟩, i2.keptR hg (fun r e => ⟨Nat.le_trans h1 (hr r e).1, (hr r e).2⟩), i3.keptR hg (fun r e => (hr r e).2), i4, i5⟩
theorem jxb_own {w0 Wf : World} {b wn r0 e : Nat} {c : Code} {B : Nat} (h1 : w0.heap.size ≤ B) (h2 : Wf.heap.size ≤ B) : OwnFrom B (fun (_ : Unit) V => JXB w0 Wf b wn r0 e c V) := by
  rintro _ V V' row ⟨i0, i1, i2, i3, r, i4⟩ hg hr
  exact ⟨i0, gr_keptR i1 hg (fun r e => Nat.le_trans h2 (hr r e).1), bx_kept i2 hg (fun r e => (hr r e).2), bx_kept i3 hg (fun r e => (hr r e).2), r, i4.keptR hg (fun r e => ⟨Nat.le_trans h1 (hr r e).1, (hr r e).2⟩)⟩
/-- The list is read. -/
def DoneL (w0 Wf : World) (b wn r0 : Nat) (kind : Int) (R : Res Fo) (V : World) : Prop := ∃ f r x ys, LJ Wf b r0 kind f x ys V ∧ Rd w0 b r wn V ∧ R = .ok (f, r)
theorem doneL_of {w0 Wf W0 V : World} {b wn r0 : Nat} {l0 : List UInt8} {kind : Int} {R : Res Fo} (hb : b < r0) (h : DoneY w0 b wn l0 W0 (JB Wf b r0 kind) R V) : DoneL w0 Wf b wn r0 kind R V := by
  obtain ⟨xs, Wp, r, ⟨⟨x, ys, i1⟩, i2, i3, i4, _⟩, i5, i6, i7⟩ := h
  exact ⟨_, r, x, ys, i1.step hb i5, i6, i7⟩
theorem doneL_own {w0 Wf : World} {b wn r0 : Nat} {kind : Int} {R : Res Fo} {B : Nat} (h1 : w0.heap.size ≤ B) (h2 : Wf.heap.size ≤ B) : OwnFrom B (fun (_ : Unit) V => DoneL w0 Wf b wn r0 kind R V) := by
  rintro _ V V' row ⟨f, r, x, ys, i1, i2, i3⟩ hg hr
  exact ⟨f, r, x, ys, i1.kept hg (fun r e => ⟨Nat.le_trans h2 (hr r e).1, (hr r e).2⟩), i2.keptR hg (fun r e => ⟨Nat.le_trans h1 (hr r e).1, (hr r e).2⟩), i3⟩
/-- The loop variables in memory, and the activation. -/
def AxL (w0 Wf W0 : World) (b wn r0 L : Nat) (kind : Int) (T : Value → Array Value → Array Value) (pre : List Yt) (x : Yt) (a' : Act) (V : World) : Prop := ∃ C, r0 + 4 ≤ C ∧ Kc b W0 V ∧ (∀ y ∈ pre, isN y) ∧ a' = { tmps := T (.pointer (some ⟨C, 0, none⟩)) (encY x), defers := [] } ∧ match x with
  | .nd h v k r => (∃ u ys, LJ Wf b r0 kind (foY pre) u ys V ∧ Kd (PJ r0 u) V v k ∧ u.ownBlock ≠ some C) ∧ Rd w0 b r wn V ∧ h.u < 18446744073709551616 ∧ Nx V C h v ∧ pre.length + 1 + r.length ≤ L
  | .er _ => (∃ u ys, LJ Wf b r0 kind (foY pre) u ys V) ∧ ∃ r, Rd w0 b r wn V
theorem axL_own {w0 Wf W0 : World} {b wn r0 L : Nat} {kind : Int} {T : Value → Array Value → Array Value} {pre : List Yt} {x : Yt} {a' : Act} {B : Nat} (h1 : w0.heap.size ≤ B) (h2 : Wf.heap.size ≤ B) : OwnFrom B (fun (_ : Unit) V => AxL w0 Wf W0 b wn r0 L kind T pre x a' V) := by
  rintro _ V V' row ⟨C, i1, i2, i3, i4, i5⟩ hg hr
  refine ⟨C, i1, i2.keptR hg (fun r e => (hr r e).2), i3, i4, ?_⟩
  have k1 := fun r e => And.intro (Nat.le_trans h2 (hr r e).1) (hr r e).2
  have k2 := fun r e => And.intro (Nat.le_trans h1 (hr r e).1) (hr r e).2
  cases x with
  | nd h v k r =>
    obtain ⟨⟨u, ys, j1, j2, j3⟩, j4, j5, j6, j7⟩ := i5
    exact ⟨⟨u, ys, j1.kept hg k1, kd_kept j2 hg (fun r e => (hr r e).2), j3⟩, j4.keptR hg k2, j5, bx_kept j6 hg (fun r e => (hr r e).2), j7⟩
  | er e =>
    obtain ⟨⟨u, ys, j1⟩, r, j4⟩ := i5
    exact ⟨⟨u, ys, j1.kept hg k1⟩, r, j4.keptR hg k2⟩
def tmL (b S r0 z3 : Nat) (p : Bool) (kind j k a : Int) (C : Value) (en : Array Value) : Array Value := #[.pointer (some ⟨b, 0, none⟩), .int .i64 kind, hdV j k a, .slice (some ⟨S, 0, none⟩) (rdN p) (rdN p), undef, undef, .pointer (some ⟨r0, 0, none⟩), undef, .pointer (some ⟨r0 + 1, 0, none⟩), .nilIface, .pointer (some ⟨r0 + 1 + 1, 0, none⟩), .pointer (some ⟨r0 + 1 + 1 + 1, 0, none⟩), C, en.getD 1 undef, .int .i64 kind, .agg #[.int .i64 kind, .bool false, .bool false, .string ⟨#[]⟩, .int .i64 0, .int .u64 0, .int .i64 0, .string ⟨#[]⟩, .slice none 0 0], .pointer (some ⟨b, 0, none⟩), hdV j k a, .slice (some ⟨S, 0, none⟩) (rdN p) (rdN p), .func (.func 188) #[] #[.pointer (some ⟨z3 + 1, 0, none⟩), .pointer (some ⟨z3, 0, none⟩), .pointer (some ⟨z3 + 2, 0, none⟩)], en.getD 0 undef, en.getD 1 undef, undef, undef, undef, undef, undef, undef, undef, undef, undef, undef, undef, undef, undef, undef, undef, undef]
section
variable {w0 W : World} {b wn : Nat} {l : List UInt8}
set_option maxRecDepth 100000 in
set_option maxHeartbeats 4000000 in
theorem list_calls (kind : Int) (S : Nat) (p : Bool) (j k a : Nat) (ha : a < 18446744073709551616) (g : Rg) (hg : Eats g) (hl : l.length < 1000000) (h : Rd w0 b l wn W)
    (hS : Bx W S (Array.replicate (rdN p) (fvV true b 0 0)) 69) (hSb : S ≠ b)
    (hC : ∀ l' W', Rd w0 b l' wn W' → l'.length ≤ l.length → Calls Tryz.prog 36 #[.pointer (some ⟨b, 0, none⟩)] W' (AnsP w0 b wn W' (g l'))) :
    Calls Tryz.prog 103 #[.pointer (some ⟨b, 0, none⟩), .int .i64 kind, hdV (j : Int) (k : Int) (a : Int), .slice (some ⟨S, 0, none⟩) (rdN p) (rdN p)] W
      (AnsP w0 b wn W (match lsL g (if k = 31 then none else some a) p false l with | .error e => .error e | .ok (f, q) => .ok ((kiH kind, f), q))) := by
  have H := Lib.hid h
  have HS := Lib.hid hS
  have HC := Lib.hid hC
  have HG := Lib.hid hg
  have hbW := h.lt
  obtain ⟨R, hR⟩ : ∃ R, R = lsL g (if k = 31 then none else some a) p false l := ⟨_, rfl⟩
  have HR := Lib.hid hR
  rw [← hR]
  clear h hS hC hg hR
  refine (callsIn_wide (n := 5)).1 ?_
  refine callsIn_of_wp_marks Tryz.func103 rfl trivial ?_ rfl
  simp only [Tryz.ntmps103, List.size_toArray, List.length_cons, List.length_nil, Nat.reduceAdd, Nat.reduceSub, Array.replicate_succ, Array.replicate_zero, List.push_toArray, List.append_toArray, List.nil_append, List.cons_append]
  gi_wp2
  refine scope_in ?_
  gi_wp2
  refine label_in ?_
  obtain ⟨W3, hW3⟩ : ∃ W3, W3 = (((W.alloc (.cells #[.int .i64 (j : Int), .int .i64 (k : Int), .int .u64 (a : Int)] 119)).alloc (.cells (zH.cells (.slice none 0 0)) 28)).alloc (.cells ((kiH kind).cells (.slice none 0 0)) 28)).alloc (.cells #[.nilIface] 57) := ⟨_, rfl⟩
  have hX0 : Bx W3 W.heap.size #[.int .i64 (j : Int), .int .i64 (k : Int), .int .u64 (a : Int)] 119 := by rw [hW3]; exact ((Bx.new W _ _).alloc _ |>.alloc _).alloc _
  have hX1 : Nx W3 (W.heap.size + 1) zH (.slice none 0 0) := by rw [hW3]; exact ((Bx.new1 W _ _ _).alloc _).alloc _
  have hX2 : Nx W3 (W.heap.size + 2) (kiH kind) (.slice none 0 0) := by rw [hW3]; exact (Bx.new2 W _ _ _ _).alloc _
  have hX3 : Bx W3 (W.heap.size + 3) #[.nilIface] 57 := by rw [hW3]; exact Bx.new3 W _ _ _ _ _
  have hB3 : Below W.heap.size W W3 := by rw [hW3]; exact below_a (below_a (below_a (below_a (Below.refl _ W) _) _) _) _
  simp only [zH, kiH, Hd.cells, Int.cast_ofNat_Int] at hW3
  rw [← hW3]
  clear hW3
  have HX0 := Lib.hid hX0
  have HX1 := Lib.hid hX1
  have HX2 := Lib.hid hX2
  have HX3 := Lib.hid hX3
  have HB3 := Lib.hid hB3
  clear hX0 hX1 hX2 hX3 hB3
  obtain ⟨e0, e1, e2⟩ := bx3 HX0.out
  have hlX := HX3.out.lt
  gi_wp2_with (refine ⟨trivial, ?_⟩; gi_at_call 145; refine (callsIn_wide.2 (through_c_calls _ _ _ _ _ _ _ _)).mono ?_; rintro o w4 ⟨rfl, rfl⟩)
  clear e0 e1 e2
  obtain ⟨W0, hW0⟩ : ∃ W0, W0 = ((W3.alloc (.cells #[.pointer (some ⟨b, 0, none⟩)] 67)).alloc (.cells #[.int .i64 (j : Int), .int .i64 (k : Int), .int .u64 (a : Int)] 119)).alloc (.cells #[.slice (some ⟨S, 0, none⟩) (rdN p) (rdN p)] 208) := ⟨_, rfl⟩
  rw [← hW0]
  have hBW : Below W3.heap.size W3 W0 := by rw [hW0]; exact below_a (below_a (below_a (Below.refl _ W3) _) _) _
  have hB0 : Below W.heap.size W W0 := below_nx HB3.out hBW
  have hTh : Th W0 b (W3.heap.size + 1) W3.heap.size (W3.heap.size + 2) S 0 0 true p (j : Int) (k : Int) (a : Int) := by
    have hl3 := HX3.out.lt
    refine ⟨?_, ?_, ?_, ?_, by omega, by omega, by omega, hSb⟩
    · rw [hW0]; exact (Bx.new1 W3 _ _ _).alloc _
    · rw [hW0]; exact ((Bx.new W3 _ _).alloc _).alloc _
    · rw [hW0]; exact Bx.new2 W3 _ _ _ _
    · exact HS.out.below hB0
  have HTh := Lib.hid hTh
  have HR0 := Lib.hid (H.out.below hB0)
  have HB0 := Lib.hid hB0
  have hz0 : W.heap.size + 4 ≤ W0.heap.size := by have := hBW.size; have := HX3.out.lt; omega
  have HJ0 : Hid (LJ W b W.heap.size kind .nil (.slice none 0 0) [] W0) := Lib.hid ⟨gr_below hB0, World.ownsRow_nil _ _ _ _, rfl, HX2.out.below hBW, HX3.out.below hBW, HX1.out.below hBW⟩
  have hw0 := H.out.base
  clear hW0 hBW hB0 hTh HX0 HX1 HX2 HX3 HB3 hlX
  refine wpIn_range_run (α := Yt) (enc := encY) rfl (by omega) (gf := 188) rfl trivial (enters_of Tryz.func188 (by kernel_rfl) rfl) (fun x => by cases x <;> rfl)
    (IY w0 b wn l W0 (JB W b W.heap.size kind)) (YY w0 b wn l W0 (JB W b W.heap.size kind) g) (IX (JXB w0 W b wn W.heap.size)) (DoneL w0 W b wn W.heap.size kind R) (LeftY (JXB w0 W b wn W.heap.size) R)
    (AxL w0 W W0 b wn W.heap.size l.length kind (tmL b S W.heap.size W3.heap.size p kind (j : Int) (k : Int) (a : Int)))
    (iy_own (by omega) (by omega)) ?_ (doneL_own (by omega) (by omega)) ?_ (fun _ _ _ => axL_own (by omega) (by omega)) ⟨⟨_, _, HJ0.out⟩, HR0.out, Kc.refl, (fun x hx => by cases hx), by show 0 + l.length ≤ l.length; omega⟩ ?_ ?_ ?_ ?_ ?_
  · intro x c
    cases x with
    | nd h v k r => exact fun _ _ _ _ hs _ _ => hs.elim
    | er e => exact jxb_own (by omega) (by omega)
  · rintro c _ V V' row ⟨e, h1, h2⟩ hg hr
    exact ⟨e, h1, jxb_own (e := e) (c := c) (B := W0.heap.size) (by omega) (by omega) () V V' row h2 hg hr⟩
  · intro l' pre x V K hY hK
    obtain ⟨Vp, ⟨⟨u, ys, j1⟩, j2, j3, j4, j5⟩, hgr, hx⟩ := hY
    have hzp := j1.size
    have hzv := hgr.size
    have j1v := j1.step hbW hgr
    cases x with
    | nd h' v' k' r =>
      obtain ⟨r1, r2, r3, r4, _⟩ := hx
      obtain ⟨A', c', rfl, _, _, _⟩ := r2.form
      have hax : AxL w0 W W0 b wn W.heap.size l.length kind (tmL b S W.heap.size W3.heap.size p kind (j : Int) (k : Int) (a : Int)) pre (.nd h' (.slice A' k'.len c') k' r) { tmps := tmL b S W.heap.size W3.heap.size p kind (j : Int) (k : Int) (a : Int) (.pointer (some ⟨V.heap.size, 0, none⟩)) (encY (.nd h' (.slice A' k'.len c') k' r)), defers := [] } (V.alloc (.cells (h'.cells (.slice A' k'.len c')) 28)) :=
        ⟨V.heap.size, by omega, (j3.trans (Kc.gr hgr)).trans (Kc.below (below_a (Below.refl _ _) _)), j4, rfl, ⟨u, ys, j1v.step hbW (gr_alloc _ _ _), (r2.mono fun B hB _ => ⟨by omega, fun e => by have := (owns_block j1.ow e).2; omega⟩).below (below_a (Below.refl _ _) _), fun e => by have := (owns_block j1.ow e).2; omega⟩, r1.alloc _, r3, Nx.new V _ _, by omega⟩
      have HA := Lib.hid hax
      have HK := Lib.hid hK
      simp only [encY, Hd.cells, tmL] at HA ⊢
      clear hax hK hgr r1 r2 j1 j2 j3 j1v
      gi_wp2
      exact HK.out _ _ ((KeepsOthers.alloc _ _).from _) HA.out
    | er e =>
      obtain ⟨r, r1⟩ := hx
      have hax : AxL w0 W W0 b wn W.heap.size l.length kind (tmL b S W.heap.size W3.heap.size p kind (j : Int) (k : Int) (a : Int)) pre (.er e) { tmps := tmL b S W.heap.size W3.heap.size p kind (j : Int) (k : Int) (a : Int) (.pointer (some ⟨V.heap.size, 0, none⟩)) (encY (.er e)), defers := [] } (V.alloc (.cells (zH.cells (.slice none 0 0)) 28)) :=
        ⟨V.heap.size, by omega, (j3.trans (Kc.gr hgr)).trans (Kc.below (below_a (Below.refl _ _) _)), j4, rfl, ⟨u, ys, j1v.step hbW (gr_alloc _ _ _)⟩, r, r1.alloc _⟩
      have HA := Lib.hid hax
      have HK := Lib.hid hK
      simp only [encY, zH, Hd.cells, Int.cast_ofNat_Int, tmL] at HA ⊢
      clear hax hK hgr r1 j1 j2 j3 j1v
      gi_wp2
      exact HK.out _ _ ((KeepsOthers.alloc _ _).from _) HA.out
  · intro l' pre x a' V hl' hA
    obtain ⟨C, i1, i2, i3, rfl, i5⟩ := hA
    cases x with
    | er e =>
      obtain ⟨⟨u, ys, j1⟩, r, j4⟩ := i5
      have HJ := Lib.hid j1
      have HR4 := Lib.hid j4
      have c0 : V.cell? ⟨W.heap.size + 1 + 1 + 1, 0, none⟩ = some .nilIface := j1.nw.c 0 rfl
      have f0 : V.frozen? ⟨W.heap.size + 1 + 1 + 1, 0, none⟩ = false := j1.nw.f 0
      have hzw := j1.nw.lt
      have hlb : b < W.heap.size := hbW
      simp only [encY, tmL]
      clear j1 j4
      gi_wp2
      refine ⟨KeepsFrom.of_grownBy (gr_set V (W.heap.size + 3) 0 (fltV (e : Int))) (fun j e => by have := Option.some.inj e; omega), rfl, gr_new HJ.out.gr (gr_set V (W.heap.size + 3) 0 (fltV (e : Int))) (by omega), gr_bx HJ.out.nr (gr_set V (W.heap.size + 3) 0 (fltV (e : Int))) (fun e => by have := Option.some.inj e; omega), HJ.out.nw.set 0 _, r, HR4.out.other (gr_set V (W.heap.size + 3) 0 (fltV (e : Int))) (by omega) (by omega)⟩
    | nd h' v' k' r =>
      obtain ⟨⟨u, ys, j1, j2, j3⟩, j4, hu', hx, hlen⟩ := i5
      obtain ⟨A', c', rfl, _, _, _⟩ := j2.form
      obtain ⟨n, hn⟩ : ∃ n, n = (foY pre).len := ⟨_, rfl⟩
      obtain ⟨AU, cU, rfl⟩ := j1.form
      have hnl : n < 1000000 := by have := foY_len pre; omega
      have hlC := hx.lt
      have hzw := j1.size
      have HJ := Lib.hid j1
      have HKd := Lib.hid j2
      have HRd := Lib.hid j4
      have HKc := Lib.hid i2
      have HAl := Lib.hid i3
      have HO : Hid (V.ownsRow (W.heap.size + 4) 28 9 (.slice AU n cU) n ys) := Lib.hid (by rw [hn]; exact j1.ow)
      rw [← hn] at j3
      have HX := Lib.hid (show Nx V.drew C h' (.slice A' k'.len c') from hx)
      have HN := Lib.hid (show Nx V.drew (W.heap.size + 1 + 1) (kiH kind) (.slice AU n cU) from by rw [hn]; exact j1.nn)
      have hneC := j3
      have HP : Hid (∀ (V' : World) (g' cap : Nat), (∀ i, i < V.heap.size → i ≠ W.heap.size + 1 + 1 → (Value.slice AU n cU).ownBlock ≠ some i → V'.heap[i]? = V.heap[i]?) → V.heap.size ≤ V'.heap.size → Nx V' (W.heap.size + 1 + 1) (kiH kind) (.slice (some ⟨g', 0, none⟩) (n + 1) cap) → V'.ownsRow (W.heap.size + 4) 28 9 (.slice (some ⟨g', 0, none⟩) (n + 1) cap) (n + 1) (ys ++ (h'.cells (.slice A' k'.len c')).toList) → Below W.heap.size V V' → ((Value.slice AU n cU).ownBlock = some g' ∨ g' = (V.drew.alloc (.cells #[.int .i64 0, .bool false, .bool false, .string ⟨#[]⟩, .int .i64 0, .int .u64 0, .int .i64 0, .string ⟨#[]⟩, .slice none 0 0] 28)).heap.size) →
          KeepsFrom W0.heap.size V V' ∧ IY w0 b wn l W0 (JB W b W.heap.size kind) (pre ++ [.nd h' (.slice A' k'.len c') k' r]) V') := Lib.hid (by
        intro V' g' cap f1 f2 f3 f4 f5 fg
        rw [hn] at f1 f3 f4
        have h5 := lj_end (x3 := .slice (some ⟨g', 0, none⟩) ((foY pre).len + 1) cap) (g := g') (B0 := W0.heap.size) hbW HJ.out HKd.out hu' HRd.out HKc.out (Nat.le_refl _) f1 f2 f3 rfl (by
          rcases fg with h | h
          · left; rw [← hn]; exact h
          · right
            rw [h, World.size_alloc]
            show V.heap.size ≤ V.heap.size + 1
            omega) f4 f5
        refine ⟨h5.1, ⟨_, _, by rw [foY_snoc]; exact h5.2.1⟩, by rw [lastY_snoc]; exact h5.2.2.1, h5.2.2.2, ?_, by rw [lastY_snoc, List.length_append, List.length_singleton]; omega⟩
        intro y hy
        rcases List.mem_append.1 hy with h | h
        · exact HAl.out y h
        · rw [List.mem_singleton] at h; rw [h]; exact trivial)
      simp only [encY, tmL, Hd.cells]
      clear j1 j2 j4 i2 i3 hx hn
      gi_wp2
      exact nd_region (by rintro ⟨_, _, h⟩; exact h) (fun _ _ _ _ h => h) hnl HO HX HN hneC hzw hlC i1 (Lib.hid fun V' a' g' cap f1 f2 f3 f4 f5 fg => by
        have h5 := HP.out V' g' cap f1 f2 f3 f4 f5 fg
        gi_wp2
        exact h5)
  · intro W1 hW1 hI
    refine (through_runs (5 - 1) (W3.heap.size + 1) W3.heap.size (W3.heap.size + 2) S 0 0 true p j k a g HG.out (by decide) ha hl (by omega) HTh.out (fun l' W' _ hr hle => HC.out l' W' hr hle) HR.out W1).mono (fun V hV => doneL_of (by omega) hV)
  · intro D V hD hdn hDf
    obtain ⟨f, r, x, ys, j1, j2, hR2⟩ := hdn
    obtain ⟨A', c', rfl⟩ := j1.form
    have HJ := Lib.hid j1
    have HR4 := Lib.hid j2
    have HDf := Lib.hid hDf
    subst hR2
    have c0 : V.cell? ⟨W.heap.size + 1 + 1 + 1, 0, none⟩ = some .nilIface := j1.nw.c 0 rfl
    have hzw := j1.nw.lt
    obtain ⟨q0, q1, q2, q3, q4, q5, q6, q7, q8⟩ := (show Nx V (W.heap.size + 1 + 1) (kiH kind) (.slice A' f.len c') from j1.nn).nine
    obtain ⟨p0, p1, p2, p3, p4, p5, p6, p7, p8⟩ := j1.nr.nine
    obtain ⟨x0, x1, x2, x3, x4, x5, x6, x7, x8⟩ := nx_f j1.nr
    have hkd : Kd (fun B => W.heap.size + 4 ≤ B) V (.slice A' f.len c') f := kd_of_owns (P := fun B => W.heap.size + 4 ≤ B) HJ.out.ow (HJ.out.rw.mono fun B h1 _ => h1.1) (fun B h1 _ => (owns_block HJ.out.ow h1).1) HJ.out.len
    have HKd := Lib.hid hkd
    clear j1 j2 hDf hkd
    gi_wp2
    obtain ⟨W5, hW5⟩ : ∃ W5, W5 = setN V (W.heap.size + 1) (kiH kind) (.slice A' f.len c') := ⟨_, rfl⟩
    have hg5 : V.grownBy W5 (some (W.heap.size + 1)) := by rw [hW5]; exact gr_setN _ _ _ _
    have hX5 : Nx W5 (W.heap.size + 1) (kiH kind) (.slice A' f.len c') := by rw [hW5]; exact HJ.out.nr.setN _ _
    simp only [setN] at hW5
    rw [← hW5]
    clear hW5
    have hD5 : W5.heap[D]? = some (.deferred (some [])) := (hg5.block D (Array.getElem?_eq_some_iff.1 HDf.out).1 (fun e => by have := Option.some.inj e; omega)).trans HDf.out
    refine door_markC hD5 ?_
    have hg6 := grownBy_putObj' W5 D (.deferred none)
    have hr6 : ∀ r, some D = some r → W.heap.size ≤ r ∧ ∃ o : Obj, W5.heap[r]? = some o ∧ o.isCells = false := fun r e => by cases e; exact ⟨by omega, _, hD5, rfl⟩
    have hX6 := bx_kept hX5 hg6 (fun r e => (hr6 r e).2)
    refine ⟨_, res_ct Tryz.results103 _ _ (W.heap.size + 1) _ _ rfl rfl (ldNd hX6), ?_⟩
    refine ⟨gr_keptR (gr_new HJ.out.gr hg5 (by omega)) hg6 (fun r e => (hr6 r e).1), _, rfl, (HR4.out.other hg5 (by omega) (by omega)).keptR hg6 (fun r e => ⟨by have := (hr6 r e).1; omega, (hr6 r e).2⟩), ?_, by show (0 : Nat) < _; decide⟩
    exact (kd_kept (HKd.out.kept hg5.size (fun B h1 h2 => hg5.block B h2 (fun e => by have := Option.some.inj e; omega))) hg6 (fun r e => (hr6 r e).2)).mono fun B h1 _ => by omega
  · intro D c V hD hlf hDf
    obtain ⟨e, hR2, rfl, i1, i2, i3, r, i4⟩ := hlf
    have HG1 := Lib.hid i1
    have HN := Lib.hid i2
    have HW := Lib.hid i3
    have HR4 := Lib.hid i4
    have HDf := Lib.hid hDf
    subst hR2
    have c0 : V.cell? ⟨W.heap.size + 1 + 1 + 1, 0, none⟩ = some (fltV (e : Int)) := i3.c 0 rfl
    have hzw := i3.lt
    obtain ⟨p0, p1, p2, p3, p4, p5, p6, p7, p8⟩ := i2.nine
    obtain ⟨x0, x1, x2, x3, x4, x5, x6, x7, x8⟩ := nx_f i2
    clear i1 i2 i3 i4 hDf
    gi_wp2
    gi_region
    gi_wp2
    obtain ⟨W5, hW5⟩ : ∃ W5, W5 = (setN V (W.heap.size + 1) zH (.slice none 0 0)).drew := ⟨_, rfl⟩
    have hg5 : V.grownBy W5 (some (W.heap.size + 1)) := by rw [hW5]; exact gr_drew (gr_setN _ _ _ _)
    have hX5 : Nx W5 (W.heap.size + 1) zH (.slice none 0 0) := by rw [hW5]; exact (HN.out.setN _ _).drew
    simp only [setN, zH, Int.cast_ofNat_Int] at hW5
    rw [← hW5]
    clear hW5
    have hD5 : W5.heap[D]? = some (.deferred (some [])) := (hg5.block D (Array.getElem?_eq_some_iff.1 HDf.out).1 (fun e => by have := Option.some.inj e; omega)).trans HDf.out
    refine door_markC hD5 ?_
    have hg6 := grownBy_putObj' W5 D (.deferred none)
    have hr6 : ∀ r, some D = some r → W.heap.size ≤ r ∧ ∃ o : Obj, W5.heap[r]? = some o ∧ o.isCells = false := fun r e => by cases e; exact ⟨by omega, _, hD5, rfl⟩
    have hX6 := bx_kept hX5 hg6 (fun r e => (hr6 r e).2)
    refine ⟨_, res_ct Tryz.results103 _ _ (W.heap.size + 1) _ _ rfl rfl (ldNd hX6), ?_⟩
    exact ⟨gr_keptR (gr_new HG1.out hg5 (by omega)) hg6 (fun r e => (hr6 r e).1), rfl, r, (HR4.out.other hg5 (by omega) (by omega)).keptR hg6 (fun r e => ⟨by have := (hr6 r e).1; omega, (hr6 r e).2⟩)⟩
end
end Go.Proofs.YtppapkpceejnkaaGreatDoor
namespace Go.Proofs.YtppapkpceejnkaaGreatDoor
open Go.RowKit

def kindS (j : Nat) : Int := if j = 2 then 6 else 5
section
variable {w0 W : World} {b wn : Nat} {l : List UInt8}
/-- A string is read, so long. -/
def strR (j a : Nat) (l : List UInt8) : Res (Hd × Fo) := if l.length < a then .error 100 else .ok ((strH j (l.take a), .nil), l.drop a)
set_option maxRecDepth 100000 in
set_option maxHeartbeats 1000000 in
theorem joined_def (j k a : Nat) (hk : k ≠ 31) (ha : a < 18446744073709551616) (hl : l.length < 1000000) (h : Rd w0 b l wn W) :
    Calls Tryz.prog 102 #[.pointer (some ⟨b, 0, none⟩), .int .i64 (kindS j), hdV (j : Int) (k : Int) (a : Int)] W (AnsP w0 b wn W (strR j a l)) := by
  have H := Lib.hid h
  have HE : Hid (∀ V, Calls Tryz.prog 105 #[.agg #[.int .i64 (j : Int), .int .i64 (k : Int), .int .u64 (a : Int)]] V fun o w' => o = .returned (.bool false) ∧ Below V.heap.size V w') := Lib.hid (fun V => by
    have := isOpen_calls (j : Int) (k : Int) (a : Int) V
    rwa [show decide ((k : Int) = 31) = false by simp; omega] at this)
  obtain ⟨kd, hkd⟩ : ∃ kd, kd = kindS j := ⟨_, rfl⟩
  have HK := Lib.hid hkd
  rw [← hkd]
  have hlW := h.lt
  clear h hkd hk
  go_enter Tryz.func102, Tryz.ntmps102
  go_wp2_with fail
  obtain ⟨W1, hW1⟩ : ∃ W1, W1 = ((W.alloc (.cells #[.int .i64 (j : Int), .int .i64 (k : Int), .int .u64 (a : Int)] 119)).alloc (.cells (zH.cells (.slice none 0 0)) 28)).alloc (.cells #[.nilIface] 57) := ⟨_, rfl⟩
  have hX0 : Bx W1 W.heap.size #[.int .i64 (j : Int), .int .i64 (k : Int), .int .u64 (a : Int)] 119 := by rw [hW1]; exact ((Bx.new W _ _).alloc _).alloc _
  have hX1 : Nx W1 (W.heap.size + 1) zH (.slice none 0 0) := by rw [hW1]; exact (Bx.new1 W _ _ _).alloc _
  have hX2 : Bx W1 (W.heap.size + 1 + 1) #[.nilIface] 57 := by rw [hW1]; exact Bx.new2 W _ _ _ _
  have hB1 : Below W.heap.size W W1 := by rw [hW1]; exact below_a (below_a (below_a (Below.refl _ W) _) _) _
  simp only [zH, Hd.cells, Int.cast_ofNat_Int] at hW1
  rw [← hW1]
  clear hW1
  refine (HE.out _).mono ?_
  rintro o w2 ⟨rfl, hb2⟩
  have HX0 := Lib.hid (hX0.below hb2)
  have HX1 := Lib.hid (hX1.below hb2)
  have HX2 := Lib.hid (hX2.below hb2)
  have HB2 := Lib.hid (below_nx hB1 hb2)
  have H2 := Lib.hid (H.out.below HB2.out)
  clear hX0 hX1 hX2 hB1 hb2
  have HT := Lib.hid (fun V (hr : Rd w0 b l wn V) => take_calls a ha hl hr)
  go_wp2_with fail
  have e2 : w2.drew.cell? ⟨W.heap.size, 2, none⟩ = some (.int .u64 (a : Int)) := HX0.out.c 2 rfl
  have e3 : w2.cell? ⟨W.heap.size, 2, none⟩ = some (.int .u64 (a : Int)) := HX0.out.c 2 rfl
  have hl2 := HX0.out.lt
  have H2d := Lib.hid H2.out.drew
  by_cases hla : l.length < a
  · simp only [if_pos hla] at HT
    go_region_with (go_at_call 144; refine (HT.out _ H2d.out).mono ?_; rintro o w3 ⟨hg3, rfl, hr3⟩)
    have HX3 := Lib.hid (gr_bx (show Nx w2.drew _ _ _ from HX1.out) hg3 (fun e => by have := Option.some.inj e; omega))
    have HY3 := Lib.hid (gr_bx (show Bx w2.drew _ _ _ from HX2.out) hg3 (fun e => by have := Option.some.inj e; omega))
    have HG3 := Lib.hid (gr_trans (gr_drew (gr_below HB2.out)) hg3)
    have HR3 := Lib.hid hr3
    clear hg3 hr3 e2 e3
    obtain ⟨p0, p1, p2, p3, p4, p5, p6, p7, p8⟩ := (show Nx w3 (W.heap.size + 1) zH (.slice none 0 0) from HX3.out).nine
    obtain ⟨x0, x1, x2, x3, x4, x5, x6, x7, x8⟩ := nx_f (show Nx w3 (W.heap.size + 1) zH (.slice none 0 0) from HX3.out)
    have c0 := HY3.out.c 0 rfl
    have f0 := HY3.out.f 0
    have l0 := HY3.out.lt
    go_wp2_with fail
    obtain ⟨W5, hW5⟩ : ∃ W5, W5 = (setN w3 (W.heap.size + 1) zH (.slice none 0 0)).setCell ⟨W.heap.size + 1 + 1, 0, none⟩ (fltV 100) := ⟨_, rfl⟩
    have hg5 : W.grownBy W5 (some b) := by rw [hW5]; exact gr_new (gr_new HG3.out (gr_setN _ _ _ _) (by omega)) (gr_set _ _ _ _) (by omega)
    have hX5 : Nx W5 (W.heap.size + 1) zH (.slice none 0 0) := by rw [hW5]; exact nx_off ((show Nx w3 (W.heap.size + 1) zH (.slice none 0 0) from HX3.out).setN _ _) (by omega)
    have hY5 : Bx W5 (W.heap.size + 1 + 1) #[fltV 100] 57 := by rw [hW5]; exact Bx.set (gr_bx HY3.out (gr_setN _ _ _ _) (fun e => by have := Option.some.inj e; omega)) 0 _
    have hR5 : Rd w0 b l wn W5 := by rw [hW5]; exact (HR3.out.other (gr_setN _ _ _ _) (by have := H.out.base; omega) (by omega)).other (gr_set _ _ _ _) (by have := H.out.base; omega) (by omega)
    simp only [setN, zH, Int.cast_ofNat_Int] at hW5
    rw [← hW5]
    clear hW5
    refine bodyPost_ret (res_cc Tryz.results102 _ _ (W.heap.size + 1) (W.heap.size + 1 + 1) _ _ rfl rfl (ldNd hX5) (hY5.c 0 rfl)) rfl ?_
    show AnsP w0 b wn W (strR j a l) _ _
    rw [show strR j a l = .error 100 from if_pos hla]
    exact ⟨hg5, rfl, _, hR5⟩
  · simp only [if_neg hla] at HT
    go_region_with (go_at_call 144; refine (HT.out _ H2d.out).mono ?_; rintro o w3 ⟨hg3, rfl, hr3⟩)
    have HX3 := Lib.hid (gr_bx (show Nx w2.drew _ _ _ from HX1.out) hg3 (fun e => by have := Option.some.inj e; omega))
    have HY3 := Lib.hid (gr_bx (show Bx w2.drew _ _ _ from HX2.out) hg3 (fun e => by have := Option.some.inj e; omega))
    have HG3 := Lib.hid (gr_trans (gr_drew (gr_below HB2.out)) hg3)
    have HR3 := Lib.hid hr3
    clear hg3 hr3 e2 e3
    obtain ⟨p0, p1, p2, p3, p4, p5, p6, p7, p8⟩ := (show Nx w3 (W.heap.size + 1) zH (.slice none 0 0) from HX3.out).nine
    obtain ⟨x0, x1, x2, x3, x4, x5, x6, x7, x8⟩ := nx_f (show Nx w3 (W.heap.size + 1) zH (.slice none 0 0) from HX3.out)
    have c0 := HY3.out.c 0 rfl
    have f0 := HY3.out.f 0
    have l0 := HY3.out.lt
    go_wp2_with fail
    obtain ⟨W5, hW5⟩ : ∃ W5, W5 = (setN w3 (W.heap.size + 1) ⟨kd, false, false, ⟨#[]⟩, 0, 0, 0, ⟨(l.take a).toArray⟩⟩ (.slice none 0 0)).setCell ⟨W.heap.size + 1 + 1, 0, none⟩ .nilIface := ⟨_, rfl⟩
    have hg5 : W.grownBy W5 (some b) := by rw [hW5]; exact gr_new (gr_new HG3.out (gr_setN _ _ _ _) (by omega)) (gr_set _ _ _ _) (by omega)
    have hX5 : Nx W5 (W.heap.size + 1) ⟨kd, false, false, ⟨#[]⟩, 0, 0, 0, ⟨(l.take a).toArray⟩⟩ (.slice none 0 0) := by rw [hW5]; exact nx_off ((show Nx w3 (W.heap.size + 1) zH (.slice none 0 0) from HX3.out).setN _ _) (by omega)
    have hY5 : Bx W5 (W.heap.size + 1 + 1) #[.nilIface] 57 := by rw [hW5]; exact Bx.set (gr_bx HY3.out (gr_setN _ _ _ _) (fun e => by have := Option.some.inj e; omega)) 0 _
    have hR5 : Rd w0 b (l.drop a) wn W5 := by rw [hW5]; exact (HR3.out.other (gr_setN _ _ _ _) (by have := H.out.base; omega) (by omega)).other (gr_set _ _ _ _) (by have := H.out.base; omega) (by omega)
    simp only [setN, Int.cast_ofNat_Int] at hW5
    rw [← hW5]
    clear hW5
    refine bodyPost_ret (res_cc Tryz.results102 _ _ (W.heap.size + 1) (W.heap.size + 1 + 1) _ _ rfl rfl (ldNd hX5) (hY5.c 0 rfl)) rfl ?_
    show AnsP w0 b wn W (strR j a l) _ _
    rw [show strR j a l = .ok ((strH j (l.take a), .nil), l.drop a) from if_neg hla]
    refine ⟨hg5, .slice none 0 0, ?_, hR5, kd_nil, by show (0 : Nat) < _; decide⟩
    rw [HK.out]
    rfl
set_option maxRecDepth 100000 in
theorem str_part (F : Nat) (j k a : Nat) (hF : (F = 60 ∧ j = 2) ∨ (F = 61 ∧ j = 3)) (R : List UInt8 → Res (Hd × Fo)) (h : Rd w0 b l wn W)
    (hJ : Hid (∀ V, Rd w0 b l wn V → Calls Tryz.prog 102 #[.pointer (some ⟨b, 0, none⟩), .int .i64 (kindS j), hdV (j : Int) (k : Int) (a : Int)] V (AnsP w0 b wn V (R l)))) :
    Calls Tryz.prog F #[.pointer (some ⟨b, 0, none⟩), hdV (j : Int) (k : Int) (a : Int)] W (AnsP w0 b wn W (R l)) := by
  have H := Lib.hid h
  have hlW := h.lt
  clear h
  rcases hF with ⟨rfl, rfl⟩ | ⟨rfl, rfl⟩
  · go_enter Tryz.func60, Tryz.ntmps60
    go_wp2_with fail
    refine (hJ.out _ ((H.out.alloc _).alloc _)).mono ?_
    rintro o w3 ⟨hg3, hm⟩
    have HG3 := Lib.hid (gr_trans (gr_below (below_a (below_a (Below.refl W.heap.size W) _) _)) hg3)
    have HX := Lib.hid (gr_bx (Bx.new1 W (.cells #[.int .i64 2, .int .i64 (k : Int), .int .u64 (a : Int)] 119) (zH.cells (.slice none 0 0)) 28) hg3 (fun e => by have := Option.some.inj e; omega))
    have hs2 : W.heap.size + 2 ≤ w3.heap.size := by have := hg3.size; simp only [World.size_alloc] at this; omega
    obtain ⟨p0, p1, p2, p3, p4, p5, p6, p7, p8⟩ := (show Nx w3 (W.heap.size + 1) zH (.slice none 0 0) from HX.out).nine
    obtain ⟨x0, x1, x2, x3, x4, x5, x6, x7, x8⟩ := nx_f (show Nx w3 (W.heap.size + 1) zH (.slice none 0 0) from HX.out)
    cases hR : R l with
    | error e =>
      rw [hR] at hm
      obtain ⟨rfl, r, hr⟩ := hm
      have HR := Lib.hid hr
      clear hg3 hr
      simp only [zH, Hd.cells, Int.cast_ofNat_Int]
      go_wp2_with fail
      obtain ⟨W5, hW5⟩ : ∃ W5, W5 = setN w3 (W.heap.size + 1) zH (.slice none 0 0) := ⟨_, rfl⟩
      have hX5 : Nx W5 (W.heap.size + 1) zH (.slice none 0 0) := by rw [hW5]; exact (show Nx w3 (W.heap.size + 1) zH (.slice none 0 0) from HX.out).setN _ _
      have hg5 : W.grownBy W5 (some b) := by rw [hW5]; exact gr_new HG3.out (gr_setN _ _ _ _) (by omega)
      have hR5 : Rd w0 b r wn W5 := by rw [hW5]; exact HR.out.other (gr_setN _ _ _ _) (by have := H.out.base; omega) (by omega)
      simp only [setN, zH, Int.cast_ofNat_Int] at hW5
      rw [← hW5]
      clear hW5
      refine bodyPost_ret (res_ct Tryz.results60 _ _ (W.heap.size + 1) _ _ rfl rfl (ldNd hX5)) rfl ?_
      show AnsP w0 b wn W (R l) _ _
      rw [hR]
      exact ⟨hg5, rfl, r, hR5⟩
    | ok y =>
      obtain ⟨⟨h', k'⟩, r⟩ := y
      rw [hR] at hm
      obtain ⟨v', rfl, hr, hk', hu'⟩ := hm
      obtain ⟨A', c', rfl, _, _, _⟩ := hk'.form
      have HR := Lib.hid hr
      have HKd := Lib.hid hk'
      simp only [Hd.cells]
      clear hg3 hr hk'
      go_wp2_with fail
      obtain ⟨W5, hW5⟩ : ∃ W5, W5 = setN w3 (W.heap.size + 1) h' (.slice A' k'.len c') := ⟨_, rfl⟩
      have hX5 : Nx W5 (W.heap.size + 1) h' (.slice A' k'.len c') := by rw [hW5]; exact (show Nx w3 (W.heap.size + 1) zH (.slice none 0 0) from HX.out).setN _ _
      have hg5 : W.grownBy W5 (some b) := by rw [hW5]; exact gr_new HG3.out (gr_setN _ _ _ _) (by omega)
      have hR5 : Rd w0 b r wn W5 := by rw [hW5]; exact HR.out.other (gr_setN _ _ _ _) (by have := H.out.base; omega) (by omega)
      have hK5 : Kd (fun B => W.heap.size + 2 ≤ B) W5 (.slice A' k'.len c') k' := by
        rw [hW5]
        exact (HKd.out.mono (Q := fun B => W.heap.size + 2 ≤ B) fun B h1 _ => by simp only [World.size_alloc] at h1; omega).kept (by rw [size_setN]; exact Nat.le_refl _) (fun B h1 h2 => setN_other (by omega))
      simp only [setN] at hW5
      rw [← hW5]
      clear hW5
      refine bodyPost_ret (res_ct Tryz.results60 _ _ (W.heap.size + 1) _ _ rfl rfl (ldNd hX5)) rfl ?_
      show AnsP w0 b wn W (R l) _ _
      rw [hR]
      exact ⟨hg5, _, rfl, hR5, hK5.mono fun B h1 _ => by omega, hu'⟩
  · go_enter Tryz.func61, Tryz.ntmps61
    go_wp2_with fail
    refine (hJ.out _ ((H.out.alloc _).alloc _)).mono ?_
    rintro o w3 ⟨hg3, hm⟩
    have HG3 := Lib.hid (gr_trans (gr_below (below_a (below_a (Below.refl W.heap.size W) _) _)) hg3)
    have HX := Lib.hid (gr_bx (Bx.new1 W (.cells #[.int .i64 3, .int .i64 (k : Int), .int .u64 (a : Int)] 119) (zH.cells (.slice none 0 0)) 28) hg3 (fun e => by have := Option.some.inj e; omega))
    have hs2 : W.heap.size + 2 ≤ w3.heap.size := by have := hg3.size; simp only [World.size_alloc] at this; omega
    obtain ⟨p0, p1, p2, p3, p4, p5, p6, p7, p8⟩ := (show Nx w3 (W.heap.size + 1) zH (.slice none 0 0) from HX.out).nine
    obtain ⟨x0, x1, x2, x3, x4, x5, x6, x7, x8⟩ := nx_f (show Nx w3 (W.heap.size + 1) zH (.slice none 0 0) from HX.out)
    cases hR : R l with
    | error e =>
      rw [hR] at hm
      obtain ⟨rfl, r, hr⟩ := hm
      have HR := Lib.hid hr
      clear hg3 hr
      simp only [zH, Hd.cells, Int.cast_ofNat_Int]
      go_wp2_with fail
      obtain ⟨W5, hW5⟩ : ∃ W5, W5 = setN w3 (W.heap.size + 1) zH (.slice none 0 0) := ⟨_, rfl⟩
      have hX5 : Nx W5 (W.heap.size + 1) zH (.slice none 0 0) := by rw [hW5]; exact (show Nx w3 (W.heap.size + 1) zH (.slice none 0 0) from HX.out).setN _ _
      have hg5 : W.grownBy W5 (some b) := by rw [hW5]; exact gr_new HG3.out (gr_setN _ _ _ _) (by omega)
      have hR5 : Rd w0 b r wn W5 := by rw [hW5]; exact HR.out.other (gr_setN _ _ _ _) (by have := H.out.base; omega) (by omega)
      simp only [setN, zH, Int.cast_ofNat_Int] at hW5
      rw [← hW5]
      clear hW5
      refine bodyPost_ret (res_ct Tryz.results61 _ _ (W.heap.size + 1) _ _ rfl rfl (ldNd hX5)) rfl ?_
      show AnsP w0 b wn W (R l) _ _
      rw [hR]
      exact ⟨hg5, rfl, r, hR5⟩
    | ok y =>
      obtain ⟨⟨h', k'⟩, r⟩ := y
      rw [hR] at hm
      obtain ⟨v', rfl, hr, hk', hu'⟩ := hm
      obtain ⟨A', c', rfl, _, _, _⟩ := hk'.form
      have HR := Lib.hid hr
      have HKd := Lib.hid hk'
      simp only [Hd.cells]
      clear hg3 hr hk'
      go_wp2_with fail
      obtain ⟨W5, hW5⟩ : ∃ W5, W5 = setN w3 (W.heap.size + 1) h' (.slice A' k'.len c') := ⟨_, rfl⟩
      have hX5 : Nx W5 (W.heap.size + 1) h' (.slice A' k'.len c') := by rw [hW5]; exact (show Nx w3 (W.heap.size + 1) zH (.slice none 0 0) from HX.out).setN _ _
      have hg5 : W.grownBy W5 (some b) := by rw [hW5]; exact gr_new HG3.out (gr_setN _ _ _ _) (by omega)
      have hR5 : Rd w0 b r wn W5 := by rw [hW5]; exact HR.out.other (gr_setN _ _ _ _) (by have := H.out.base; omega) (by omega)
      have hK5 : Kd (fun B => W.heap.size + 2 ≤ B) W5 (.slice A' k'.len c') k' := by
        rw [hW5]
        exact (HKd.out.mono (Q := fun B => W.heap.size + 2 ≤ B) fun B h1 _ => by simp only [World.size_alloc] at h1; omega).kept (by rw [size_setN]; exact Nat.le_refl _) (fun B h1 h2 => setN_other (by omega))
      simp only [setN] at hW5
      rw [← hW5]
      clear hW5
      refine bodyPost_ret (res_ct Tryz.results61 _ _ (W.heap.size + 1) _ _ rfl rfl (ldNd hX5)) rfl ?_
      show AnsP w0 b wn W (R l) _ _
      rw [hR]
      exact ⟨hg5, _, rfl, hR5, hK5.mono fun B h1 _ => by omega, hu'⟩
end
end Go.Proofs.YtppapkpceejnkaaGreatDoor
namespace Go.Proofs.YtppapkpceejnkaaGreatDoor
open Go.RowKit

/-- What a list's part reads. -/
def listR (kind : Int) (p : Bool) (k a : Nat) (g : Rg) (l : List UInt8) : Res (Hd × Fo) := match lsL g (if k = 31 then none else some a) p false l with
  | .error e => .error e
  | .ok (f, q) => .ok ((kiH kind, f), q)
section
variable {w0 W : World} {b wn : Nat} {l : List UInt8}
set_option maxRecDepth 100000 in
set_option maxHeartbeats 1000000 in
theorem array_calls (k a : Nat) (ha : a < 18446744073709551616) (g : Rg) (hg : Eats g) (hl : l.length < 1000000) (h : Rd w0 b l wn W)
    (hC : ∀ l' W', Rd w0 b l' wn W' → l'.length ≤ l.length → Calls Tryz.prog 36 #[.pointer (some ⟨b, 0, none⟩)] W' (AnsP w0 b wn W' (g l'))) :
    Calls Tryz.prog 62 #[.pointer (some ⟨b, 0, none⟩), hdV 4 (k : Int) (a : Int)] W (AnsP w0 b wn W (listR 7 false k a g l)) := by
  have H := Lib.hid h
  have hlW := h.lt
  have HL : Hid (∀ V, Rd w0 b l wn V → ∀ S, Bx V S #[.func (.func 36) #[.pointer (some ⟨b, 0, none⟩)] #[]] 69 → S ≠ b → Calls Tryz.prog 103 #[.pointer (some ⟨b, 0, none⟩), .int .i64 7, hdV 4 (k : Int) (a : Int), .slice (some ⟨S, 0, none⟩) 1 1] V (AnsP w0 b wn V (listR 7 false k a g l))) := Lib.hid (fun V hr S hS hSb => list_calls 7 S false 4 k a ha g hg hl hr hS hSb hC)
  clear h hC hg
  go_enter Tryz.func62, Tryz.ntmps62
  go_wp2_with fail
  refine (HL.out _ (((H.out.alloc _).alloc _).alloc _) (W.heap.size + 2) (Bx.new2 W _ _ _ _) (by omega)).mono ?_
  rintro o w3 ⟨hg3, hm⟩
  have HG3 := Lib.hid (gr_trans (gr_below (below_a (below_a (below_a (Below.refl W.heap.size W) _) _) _)) hg3)
  have HX := Lib.hid (gr_bx ((Bx.new1 W (.cells #[.int .i64 4, .int .i64 (k : Int), .int .u64 (a : Int)] 119) (zH.cells (.slice none 0 0)) 28).alloc _) hg3 (fun e => by have := Option.some.inj e; omega))
  have hs2 : W.heap.size + 2 ≤ w3.heap.size := by have := hg3.size; simp only [World.size_alloc] at this; omega
  obtain ⟨p0, p1, p2, p3, p4, p5, p6, p7, p8⟩ := (show Nx w3 (W.heap.size + 1) zH (.slice none 0 0) from HX.out).nine
  obtain ⟨x0, x1, x2, x3, x4, x5, x6, x7, x8⟩ := nx_f (show Nx w3 (W.heap.size + 1) zH (.slice none 0 0) from HX.out)
  obtain ⟨R, hRR⟩ : ∃ R, R = listR 7 false k a g l := ⟨_, rfl⟩
  rw [← hRR] at hm
  have HRR := Lib.hid hRR
  clear hRR
  cases hR : R with
  | error e =>
    rw [hR] at hm
    obtain ⟨rfl, r, hr⟩ := hm
    have HR := Lib.hid hr
    clear hg3 hr
    simp only [zH, Hd.cells, Int.cast_ofNat_Int]
    go_wp2_with fail
    obtain ⟨W5, hW5⟩ : ∃ W5, W5 = setN w3 (W.heap.size + 1) zH (.slice none 0 0) := ⟨_, rfl⟩
    have hX5 : Nx W5 (W.heap.size + 1) zH (.slice none 0 0) := by rw [hW5]; exact (show Nx w3 (W.heap.size + 1) zH (.slice none 0 0) from HX.out).setN _ _
    have hg5 : W.grownBy W5 (some b) := by rw [hW5]; exact gr_new HG3.out (gr_setN _ _ _ _) (by omega)
    have hR5 : Rd w0 b r wn W5 := by rw [hW5]; exact HR.out.other (gr_setN _ _ _ _) (by have := H.out.base; omega) (by omega)
    simp only [setN, zH, Int.cast_ofNat_Int] at hW5
    rw [← hW5]
    clear hW5
    refine bodyPost_ret (res_ct Tryz.results62 _ _ (W.heap.size + 1) _ _ rfl rfl (ldNd hX5)) rfl ?_
    show AnsP w0 b wn W (listR 7 false k a g l) _ _
    rw [← HRR.out, hR]
    exact ⟨hg5, rfl, r, hR5⟩
  | ok y =>
    obtain ⟨⟨h', k'⟩, r⟩ := y
    rw [hR] at hm
    obtain ⟨v', rfl, hr, hk', hu'⟩ := hm
    obtain ⟨A', c', rfl, _, _, _⟩ := hk'.form
    have HR := Lib.hid hr
    have HKd := Lib.hid hk'
    simp only [Hd.cells]
    clear hg3 hr hk'
    go_wp2_with fail
    obtain ⟨W5, hW5⟩ : ∃ W5, W5 = setN w3 (W.heap.size + 1) h' (.slice A' k'.len c') := ⟨_, rfl⟩
    have hX5 : Nx W5 (W.heap.size + 1) h' (.slice A' k'.len c') := by rw [hW5]; exact (show Nx w3 (W.heap.size + 1) zH (.slice none 0 0) from HX.out).setN _ _
    have hg5 : W.grownBy W5 (some b) := by rw [hW5]; exact gr_new HG3.out (gr_setN _ _ _ _) (by omega)
    have hR5 : Rd w0 b r wn W5 := by rw [hW5]; exact HR.out.other (gr_setN _ _ _ _) (by have := H.out.base; omega) (by omega)
    have hK5 : Kd (fun B => W.heap.size + 2 ≤ B) W5 (.slice A' k'.len c') k' := by
      rw [hW5]
      exact (HKd.out.mono (Q := fun B => W.heap.size + 2 ≤ B) fun B h1 _ => by simp only [World.size_alloc] at h1; omega).kept (by rw [size_setN]; exact Nat.le_refl _) (fun B h1 h2 => setN_other (by omega))
    simp only [setN] at hW5
    rw [← hW5]
    clear hW5
    refine bodyPost_ret (res_ct Tryz.results62 _ _ (W.heap.size + 1) _ _ rfl rfl (ldNd hX5)) rfl ?_
    show AnsP w0 b wn W (listR 7 false k a g l) _ _
    rw [← HRR.out, hR]
    exact ⟨hg5, _, rfl, hR5, hK5.mono fun B h1 _ => by omega, hu'⟩
set_option maxRecDepth 100000 in
set_option maxHeartbeats 1000000 in
theorem members_calls (k a : Nat) (ha : a < 18446744073709551616) (g : Rg) (hg : Eats g) (hl : l.length < 1000000) (h : Rd w0 b l wn W)
    (hC : ∀ l' W', Rd w0 b l' wn W' → l'.length ≤ l.length → Calls Tryz.prog 36 #[.pointer (some ⟨b, 0, none⟩)] W' (AnsP w0 b wn W' (g l'))) :
    Calls Tryz.prog 63 #[.pointer (some ⟨b, 0, none⟩), hdV 5 (k : Int) (a : Int)] W (AnsP w0 b wn W (listR 8 true k a g l)) := by
  have H := Lib.hid h
  have hlW := h.lt
  have HL : Hid (∀ V, Rd w0 b l wn V → ∀ S, Bx V S #[.func (.func 36) #[.pointer (some ⟨b, 0, none⟩)] #[], .func (.func 36) #[.pointer (some ⟨b, 0, none⟩)] #[]] 69 → S ≠ b → Calls Tryz.prog 103 #[.pointer (some ⟨b, 0, none⟩), .int .i64 8, hdV 5 (k : Int) (a : Int), .slice (some ⟨S, 0, none⟩) 2 2] V (AnsP w0 b wn V (listR 8 true k a g l))) := Lib.hid (fun V hr S hS hSb => list_calls 8 S true 5 k a ha g hg hl hr hS hSb hC)
  clear h hC hg
  go_enter Tryz.func63, Tryz.ntmps63
  go_wp2_with fail
  refine (HL.out _ (((H.out.alloc _).alloc _).alloc _) (W.heap.size + 2) (Bx.new2 W _ _ _ _) (by omega)).mono ?_
  rintro o w3 ⟨hg3, hm⟩
  have HG3 := Lib.hid (gr_trans (gr_below (below_a (below_a (below_a (Below.refl W.heap.size W) _) _) _)) hg3)
  have HX := Lib.hid (gr_bx ((Bx.new1 W (.cells #[.int .i64 5, .int .i64 (k : Int), .int .u64 (a : Int)] 119) (zH.cells (.slice none 0 0)) 28).alloc _) hg3 (fun e => by have := Option.some.inj e; omega))
  have hs2 : W.heap.size + 2 ≤ w3.heap.size := by have := hg3.size; simp only [World.size_alloc] at this; omega
  obtain ⟨p0, p1, p2, p3, p4, p5, p6, p7, p8⟩ := (show Nx w3 (W.heap.size + 1) zH (.slice none 0 0) from HX.out).nine
  obtain ⟨x0, x1, x2, x3, x4, x5, x6, x7, x8⟩ := nx_f (show Nx w3 (W.heap.size + 1) zH (.slice none 0 0) from HX.out)
  obtain ⟨R, hRR⟩ : ∃ R, R = listR 8 true k a g l := ⟨_, rfl⟩
  rw [← hRR] at hm
  have HRR := Lib.hid hRR
  clear hRR
  cases hR : R with
  | error e =>
    rw [hR] at hm
    obtain ⟨rfl, r, hr⟩ := hm
    have HR := Lib.hid hr
    clear hg3 hr
    simp only [zH, Hd.cells, Int.cast_ofNat_Int]
    go_wp2_with fail
    obtain ⟨W5, hW5⟩ : ∃ W5, W5 = setN w3 (W.heap.size + 1) zH (.slice none 0 0) := ⟨_, rfl⟩
    have hX5 : Nx W5 (W.heap.size + 1) zH (.slice none 0 0) := by rw [hW5]; exact (show Nx w3 (W.heap.size + 1) zH (.slice none 0 0) from HX.out).setN _ _
    have hg5 : W.grownBy W5 (some b) := by rw [hW5]; exact gr_new HG3.out (gr_setN _ _ _ _) (by omega)
    have hR5 : Rd w0 b r wn W5 := by rw [hW5]; exact HR.out.other (gr_setN _ _ _ _) (by have := H.out.base; omega) (by omega)
    simp only [setN, zH, Int.cast_ofNat_Int] at hW5
    rw [← hW5]
    clear hW5
    refine bodyPost_ret (res_ct Tryz.results63 _ _ (W.heap.size + 1) _ _ rfl rfl (ldNd hX5)) rfl ?_
    show AnsP w0 b wn W (listR 8 true k a g l) _ _
    rw [← HRR.out, hR]
    exact ⟨hg5, rfl, r, hR5⟩
  | ok y =>
    obtain ⟨⟨h', k'⟩, r⟩ := y
    rw [hR] at hm
    obtain ⟨v', rfl, hr, hk', hu'⟩ := hm
    obtain ⟨A', c', rfl, _, _, _⟩ := hk'.form
    have HR := Lib.hid hr
    have HKd := Lib.hid hk'
    simp only [Hd.cells]
    clear hg3 hr hk'
    go_wp2_with fail
    obtain ⟨W5, hW5⟩ : ∃ W5, W5 = setN w3 (W.heap.size + 1) h' (.slice A' k'.len c') := ⟨_, rfl⟩
    have hX5 : Nx W5 (W.heap.size + 1) h' (.slice A' k'.len c') := by rw [hW5]; exact (show Nx w3 (W.heap.size + 1) zH (.slice none 0 0) from HX.out).setN _ _
    have hg5 : W.grownBy W5 (some b) := by rw [hW5]; exact gr_new HG3.out (gr_setN _ _ _ _) (by omega)
    have hR5 : Rd w0 b r wn W5 := by rw [hW5]; exact HR.out.other (gr_setN _ _ _ _) (by have := H.out.base; omega) (by omega)
    have hK5 : Kd (fun B => W.heap.size + 2 ≤ B) W5 (.slice A' k'.len c') k' := by
      rw [hW5]
      exact (HKd.out.mono (Q := fun B => W.heap.size + 2 ≤ B) fun B h1 _ => by simp only [World.size_alloc] at h1; omega).kept (by rw [size_setN]; exact Nat.le_refl _) (fun B h1 h2 => setN_other (by omega))
    simp only [setN] at hW5
    rw [← hW5]
    clear hW5
    refine bodyPost_ret (res_ct Tryz.results63 _ _ (W.heap.size + 1) _ _ rfl rfl (ldNd hX5)) rfl ?_
    show AnsP w0 b wn W (listR 8 true k a g l) _ _
    rw [← HRR.out, hR]
    exact ⟨hg5, _, rfl, hR5, hK5.mono fun B h1 _ => by omega, hu'⟩
end
end Go.Proofs.YtppapkpceejnkaaGreatDoor
namespace Go.Proofs.YtppapkpceejnkaaGreatDoor
open Go.RowKit

/-- What a tag's part reads. -/
def tagR (a : Nat) (g : Rg) (l : List UInt8) : Res (Hd × Fo) := match g l with
  | .error e => .error e
  | .ok ((h, f), q) => .ok ((tgC a, .cons h f .nil), q)
theorem cells_bx {W : World} {B : Nat} {h : Hd} {v : Value} (hx : Nx W B h v) : Cells W B 0 (h.cells v) := fun i u hi => by
  rw [Nat.zero_add]
  exact Bx.c hx i hi
theorem kd_one {P : Nat → Prop} {W : World} {C : Nat} {h : Hd} {v : Value} {k : Fo} (hx : Nx W C h v) (hk : Kd P W v k) (hu : h.u < 18446744073709551616) (hP : P C) :
    Kd P W (.slice (some ⟨C, 0, none⟩) 1 1) (.cons h k .nil) :=
  .inr ⟨C, 0, 1, rfl, Nat.le_refl _, by show 0 + 1 < _; decide, hx.lt, hP, ⟨⟨v, cells_bx hx, hk⟩, hu, trivial⟩⟩
section
variable {w0 W : World} {b wn : Nat} {l : List UInt8}
set_option maxRecDepth 100000 in
set_option maxHeartbeats 1000000 in
theorem tag_calls (k a : Nat) (ha : a < 18446744073709551616) (g : Rg) (h : Rd w0 b l wn W)
    (hC : ∀ W', Rd w0 b l wn W' → Calls Tryz.prog 36 #[.pointer (some ⟨b, 0, none⟩)] W' (AnsP w0 b wn W' (g l))) :
    Calls Tryz.prog 64 #[.pointer (some ⟨b, 0, none⟩), hdV 6 (k : Int) (a : Int)] W (AnsP w0 b wn W (tagR a g l)) := by
  have H := Lib.hid h
  have hlW := h.lt
  have HC := Lib.hid hC
  clear h hC
  go_enter Tryz.func64, Tryz.ntmps64
  go_wp2_with fail
  refine (HC.out _ ((H.out.alloc _).alloc _)).mono ?_
  rintro o w3 ⟨hg3, hm⟩
  have HG3 := Lib.hid (gr_trans (gr_below (below_a (below_a (Below.refl W.heap.size W) _) _)) hg3)
  have HX := Lib.hid (gr_bx (Bx.new1 W (.cells #[.int .i64 6, .int .i64 (k : Int), .int .u64 (a : Int)] 119) (zH.cells (.slice none 0 0)) 28) hg3 (fun e => by have := Option.some.inj e; omega))
  have HY := Lib.hid (gr_bx ((Bx.new W #[.int .i64 6, .int .i64 (k : Int), .int .u64 (a : Int)] 119).alloc (.cells (zH.cells (.slice none 0 0)) 28)) hg3 (fun e => by have := Option.some.inj e; omega))
  have hs2 : W.heap.size + 2 ≤ w3.heap.size := by have := hg3.size; simp only [World.size_alloc] at this; omega
  have hs1 : W.heap.size + 1 < w3.heap.size := by omega
  have hs0 : W.heap.size < w3.heap.size := by omega
  obtain ⟨p0, p1, p2, p3, p4, p5, p6, p7, p8⟩ := (show Nx w3 (W.heap.size + 1) zH (.slice none 0 0) from HX.out).nine
  obtain ⟨x0, x1, x2, x3, x4, x5, x6, x7, x8⟩ := nx_f (show Nx w3 (W.heap.size + 1) zH (.slice none 0 0) from HX.out)
  obtain ⟨y0, y1, y2⟩ := bx3 HY.out
  obtain ⟨R, hRR⟩ : ∃ R, R = g l := ⟨_, rfl⟩
  rw [← hRR] at hm
  have HRR := Lib.hid hRR
  clear hRR
  cases hR : R with
  | error e =>
    rw [hR] at hm
    obtain ⟨rfl, r, hr⟩ := hm
    have HR := Lib.hid hr
    clear hg3 hr
    simp only [zH, Hd.cells, Int.cast_ofNat_Int]
    go_wp2_with fail
    obtain ⟨W5, hW5⟩ : ∃ W5, W5 = (setN w3 (W.heap.size + 1) zH (.slice none 0 0)).alloc (.cells (zH.cells (.slice none 0 0)) 28) := ⟨_, rfl⟩
    have hX5 : Nx W5 (W.heap.size + 1) zH (.slice none 0 0) := by rw [hW5]; exact ((show Nx w3 (W.heap.size + 1) zH (.slice none 0 0) from HX.out).setN _ _).alloc _
    have hg5 : W.grownBy W5 (some b) := by rw [hW5]; exact gr_trans (gr_new HG3.out (gr_setN _ _ _ _) (by omega)) (gr_alloc _ _ _)
    have hR5 : Rd w0 b r wn W5 := by rw [hW5]; exact (HR.out.other (gr_setN _ _ _ _) (by have := H.out.base; omega) (by omega)).alloc _
    simp only [setN, zH, Hd.cells, Int.cast_ofNat_Int] at hW5
    rw [← hW5]
    clear hW5
    refine bodyPost_ret (res_ct Tryz.results64 _ _ (W.heap.size + 1) _ _ rfl rfl (ldNd hX5)) rfl ?_
    show AnsP w0 b wn W (tagR a g l) _ _
    rw [tagR, ← HRR.out, hR]
    exact ⟨hg5, rfl, r, hR5⟩
  | ok y =>
    obtain ⟨⟨h', k'⟩, r⟩ := y
    rw [hR] at hm
    obtain ⟨v', rfl, hr, hk', hu'⟩ := hm
    obtain ⟨A', c', rfl, _, _, _⟩ := hk'.form
    have HR := Lib.hid hr
    have HKd := Lib.hid hk'
    simp only [Hd.cells]
    clear hg3 hr hk'
    go_wp2_with fail
    obtain ⟨W4, hW4⟩ : ∃ W4, W4 = setN w3 (W.heap.size + 1) (tgC a) (.slice (some ⟨w3.heap.size + 1, 0, none⟩) 1 1) := ⟨_, rfl⟩
    have hX4 : Nx W4 (W.heap.size + 1) (tgC a) (.slice (some ⟨w3.heap.size + 1, 0, none⟩) 1 1) := by rw [hW4]; exact (show Nx w3 (W.heap.size + 1) zH (.slice none 0 0) from HX.out).setN _ _
    have hg4 : W.grownBy W4 (some b) := by rw [hW4]; exact gr_new HG3.out (gr_setN _ _ _ _) (by omega)
    have hR4 : Rd w0 b r wn W4 := by rw [hW4]; exact HR.out.other (gr_setN _ _ _ _) (by have := H.out.base; omega) (by omega)
    have hK4 : Kd (fun B => W.heap.size + 2 ≤ B) W4 (.slice A' k'.len c') k' := by
      rw [hW4]
      exact (HKd.out.mono (Q := fun B => W.heap.size + 2 ≤ B) fun B h1 _ => by simp only [World.size_alloc] at h1; omega).kept (by rw [size_setN]; exact Nat.le_refl _) (fun B h1 h2 => setN_other (by omega))
    have hs4 : W4.heap.size = w3.heap.size := by rw [hW4, size_setN]
    obtain ⟨W5, hW5⟩ : ∃ W5, W5 = (W4.alloc (.cells (h'.cells (.slice A' k'.len c')) 28)).alloc (.cells (h'.cells (.slice A' k'.len c')) 28) := ⟨_, rfl⟩
    have hb5 : Below W4.heap.size W4 W5 := by rw [hW5]; exact below_a (below_a (Below.refl _ _) _) _
    have hX5 : Nx W5 (W.heap.size + 1) (tgC a) (.slice (some ⟨w3.heap.size + 1, 0, none⟩) 1 1) := hX4.below hb5
    have hg5 : W.grownBy W5 (some b) := gr_trans hg4 (gr_below hb5)
    have hR5 : Rd w0 b r wn W5 := hR4.below hb5
    have hK5 : Kd (fun B => W.heap.size + 2 ≤ B) W5 (.slice (some ⟨w3.heap.size + 1, 0, none⟩) 1 1) (.cons h' k' .nil) := by
      refine kd_one (h := h') (v := .slice A' k'.len c') ?_ (hK4.below hb5) hu' (by omega)
      rw [← hs4, hW5]
      exact Bx.new1 W4 _ _ _
    clear hX4 hg4 hR4 hK4 hs4 hb5
    simp only [Hd.cells] at hW5
    simp only [setN, tgC] at hW4
    rw [hW4] at hW5
    rw [← hW5]
    clear hW5 hW4
    refine bodyPost_ret (res_ct Tryz.results64 _ _ (W.heap.size + 1) _ _ rfl rfl (ldNd hX5)) rfl ?_
    show AnsP w0 b wn W (tagR a g l) _ _
    rw [tagR, ← HRR.out, hR]
    exact ⟨hg5, _, rfl, hR5, hK5.mono fun B h1 _ => by omega, ha⟩
end
end Go.Proofs.YtppapkpceejnkaaGreatDoor
