/- Bytes of chunks, in a builder. The program's own: joined, open. -/
import Derived.Test.YtppapkpceejnkaaGreatDoorZl
import Derived.Test.YtppapkpceejnkaaGreatDoorZm
import Derived.Shelf.RegionOpen
namespace Go.Proofs.YtppapkpceejnkaaGreatDoor
open Go.RowKit

abbrev Bld (SB : Nat) (t : List UInt8) (V : World) : Prop := Lib.IsBuilderF 132 5 SB SB (Lib.byteCells t) V
theorem bld_gr {V V' : World} {SB b : Nat} {t : List UInt8} (h : Bld SB t V) (hg : V.grownBy V' (some b)) (hb : b < SB) : Bld SB t V' := by
  have key : ∀ p, Lib.BuilderAtF 132 5 SB SB p (Lib.byteCells t) V → Lib.BuilderAtF 132 5 SB SB p (Lib.byteCells t) V' := by
    rintro p ⟨hB, v, hb', hown, hne⟩
    refine ⟨hB, v, (hg.block SB (Array.getElem?_eq_some_iff.1 hb').1 (fun e => by have := Option.some.inj e; omega)).trans hb', hown.kept hg ?_, hne⟩
    rcases hown.2 with ⟨rfl, _⟩ | ⟨g, cap, cur, fz, rfl, hg0, hh, _⟩
    · exact .inl rfl
    · right
      intro e
      have h5 := Option.some.inj e
      simp only at h5
      omega
  exact h.elim (fun x => .inl (key _ x)) (fun x => .inr (key _ x))
theorem bld_ty {V : World} {SB : Nat} {t : List UInt8} (h : Bld SB t V) : ∃ cs fr, V.heap[SB]? = some (.cells cs 132 fr) := by
  rcases h with ⟨_, v, h, _⟩ | ⟨_, v, h, _⟩
  · exact ⟨_, _, h⟩
  · exact ⟨_, _, h⟩
theorem bld_new {W : World} : Bld W.heap.size [] (W.alloc (.cells #[.pointer none, .slice none 0 0] 132)) :=
  .inl ⟨Nat.le_refl _, .slice none 0 0, World.alloc_heap_new W _, World.ownsRowF_nil _ _ _ _, by simp [Value.ownBlock]⟩
theorem writeK_calls (SB : Nat) (t : List UInt8) (s : ByteArray) (w : World) (h : Bld SB t w) (hlen : t.length + s.data.toList.length ≤ 1000000) (hBw : SB ≤ w.heap.size) :
    Calls Tryz.prog 147 #[.pointer (some ⟨SB, 0, none⟩), .string s] w fun e w' => e = .returned (.tuple #[.int .i64 (s.size : Int), .nilIface]) ∧ Bld SB (t ++ s.data.toList) w' ∧ Below SB w w' ∧ Lib.OthersKept 5 (some SB) w w' := by
  refine (Any.Builder_WriteString_k (ρ := Tryz.lays105_ren) { Tryz.lays105 with } Tryz.Builder_Extra_105 SB SB (Lib.byteCells t) s w h (by rw [Lib.byteCells_length, ← ByteArray.size_data, ← Array.length_toList]; omega) hBw).mono ?_
  rintro e w' ⟨rfl, h1, h2, h3⟩
  refine ⟨rfl, .inr ?_, h2, h3⟩
  rw [Lib.byteCells_append]
  exact h1
theorem stringK_calls (SB : Nat) (t : List UInt8) (w : World) (h : Bld SB t w) (hBw : SB ≤ w.heap.size) :
    Calls Tryz.prog 72 #[.pointer (some ⟨SB, 0, none⟩)] w fun e w' => e = .returned (.string ⟨t.toArray⟩) ∧ Below SB w w' ∧ Lib.OthersKept 5 (some SB) w w' := by
  refine (Any.Builder_String_any_k (ρ := Tryz.lays105_ren) { Tryz.lays105 with } Tryz.Builder_Extra_105 SB SB t w h hBw).mono ?_
  rintro e w' ⟨rfl, _, h2, h3⟩
  exact ⟨rfl, h2, h3⟩
/-- A chunk's bytes are some of those that were left. -/
theorem chunk_bytes {m : Nat} {l r : List UInt8} {h : Hd} {k : Fo} (hh : chunkI FC m l = .ok ((h, k), r)) : h.s.data.toList.length + r.length ≤ l.length ∧ k = .nil := by
  unfold chunkI at hh
  cases hr : rdL l with
  | error e => rw [hr] at hh; cases hh
  | ok y =>
    obtain ⟨j, k', a, q⟩ := y
    have hl := rdL_len hr
    rw [hr] at hh
    simp only at hh
    split at hh
    · cases hh
    · split at hh
      · cases hh
      · cases hh
        refine ⟨?_, rfl⟩
        show (strH m (q.take a)).s.data.toList.length + _ ≤ _
        rw [show (strH m (q.take a)).s.data.toList = q.take a by simp [strH], List.length_take, List.length_drop]
        omega
/-- What the loop over chunks keeps. -/
structure JC (Wf : World) (b r0 SB : Nat) (l0 : List UInt8) (xs : List Yt) (V : World) : Prop where
  gr : Wf.grownBy V (some b)
  bd : Bld SB (joinS (foY xs)) V
  nr : Nx V (r0 + 1) zH (.slice none 0 0)
  nw : Bx V (r0 + 2) #[.nilIface] 57
  ln : (joinS (foY xs)).length + (lastY l0 xs).length ≤ l0.length
section
variable {w0 Wf W0 V V' : World} {b wn r0 SB : Nat} {l l0 : List UInt8} {xs : List Yt}
theorem JC.step (h : JC Wf b r0 SB l0 xs V) (hg : V.grownBy V' (some b)) (hb : b < r0) (hS : r0 < SB) : JC Wf b r0 SB l0 xs V' :=
  ⟨gr_trans h.gr hg, bld_gr h.bd hg (by omega), gr_bx h.nr hg (fun e => by have := Option.some.inj e; omega), gr_bx h.nw hg (fun e => by have := Option.some.inj e; omega), h.ln⟩
theorem JC.kept (h : JC Wf b r0 SB l0 xs V) {row : Option Nat} (hg : V.grownBy V' row) (hr : ∀ r, row = some r → Wf.heap.size ≤ r ∧ ∃ o : Obj, V.heap[r]? = some o ∧ o.isCells = false) : JC Wf b r0 SB l0 xs V' :=
  ⟨gr_keptR h.gr hg (fun r e => (hr r e).1), bld_kept h.bd hg (fun r e => (hr r e).2), bx_kept h.nr hg (fun r e => (hr r e).2), bx_kept h.nw hg (fun r e => (hr r e).2), h.ln⟩
theorem Rd.belowB {B : Nat} (h : Rd w0 b l wn V) (hb : Below B V V') (h1 : w0.heap.size ≤ B) (h2 : b < B) : Rd w0 b l wn V' := ⟨h.hb, h.hw.trans (hb.mono h1), (hb.block b h2).trans h.bx⟩
theorem gr_belowB {B : Nat} (h : Wf.grownBy V (some b)) (hb : Below B V V') (h1 : Wf.heap.size ≤ B) : Wf.grownBy V' (some b) :=
  ⟨hb.os.trans h.os, hb.tape.trans h.tape, hb.output.trans h.output, Nat.le_trans h.size hb.size, fun k hk hn => (hb.block k (Nat.lt_of_lt_of_le hk h1)).trans (h.block k hk hn)⟩
theorem kc_others {t : List UInt8} (h : Lib.OthersKept 5 (some SB) V V') (hs : V.heap.size ≤ V'.heap.size) (hB : Bld SB t V) : Kc b V V' :=
  ⟨hs, fun i cs T fr hi hT _ => h i _ hi (fun e => by
    obtain ⟨cs', fr', h2⟩ := bld_ty hB
    rw [Option.some.inj e, h2] at hi
    cases hi
    exact hT.2.2.1 rfl) (fun c fz e => by
    cases e
    exact hT.2.2.2 rfl)⟩
def JXC (w0 Wf : World) (b wn r0 : Nat) (e : Nat) (c : Code) (V : World) : Prop := c = .ret ∧ Wf.grownBy V (some b) ∧ Nx V (r0 + 1) zH (.slice none 0 0) ∧ Bx V (r0 + 2) #[fltV (e : Int)] 57 ∧ ∃ r, Rd w0 b r wn V
theorem iyc_own {B : Nat} (h1 : w0.heap.size ≤ B) (h2 : Wf.heap.size ≤ B) : OwnFrom B (IY w0 b wn l0 W0 (JC Wf b r0 SB l0)) := by
  rintro xs V V' row ⟨i1, i2, i3, i4, i5⟩ hg hr
  exact ⟨i1.kept hg (fun r e => ⟨Nat.le_trans h2 (hr r e).1, (hr r e).2⟩), i2.keptR hg (fun r e => ⟨Nat.le_trans h1 (hr r e).1, (hr r e).2⟩), i3.keptR hg (fun r e => (hr r e).2), i4, i5⟩
theorem jxc_own {B e : Nat} {c : Code} (h1 : w0.heap.size ≤ B) (h2 : Wf.heap.size ≤ B) : OwnFrom B (fun (_ : Unit) V => JXC w0 Wf b wn r0 e c V) := by
  rintro _ V V' row ⟨i0, i1, i2, i3, r, i4⟩ hg hr
  exact ⟨i0, gr_keptR i1 hg (fun r e => Nat.le_trans h2 (hr r e).1), bx_kept i2 hg (fun r e => (hr r e).2), bx_kept i3 hg (fun r e => (hr r e).2), r, i4.keptR hg (fun r e => ⟨Nat.le_trans h1 (hr r e).1, (hr r e).2⟩)⟩
/-- All chunks are read. -/
def DoneC (w0 Wf : World) (b wn r0 SB : Nat) (l0 : List UInt8) (R : Res Fo) (V : World) : Prop := ∃ xs r, JC Wf b r0 SB l0 xs V ∧ Rd w0 b r wn V ∧ R = .ok (foY xs, r)
theorem doneC_of {R : Res Fo} (hb : b < r0) (hS : r0 < SB) (h : DoneY w0 b wn l0 W0 (JC Wf b r0 SB l0) R V) : DoneC w0 Wf b wn r0 SB l0 R V := by
  obtain ⟨xs, Wp, r, ⟨i1, i2, i3, i4, _⟩, i5, i6, i7⟩ := h
  exact ⟨xs, r, i1.step i5 hb hS, i6, i7⟩
theorem doneC_own {R : Res Fo} {B : Nat} (h1 : w0.heap.size ≤ B) (h2 : Wf.heap.size ≤ B) : OwnFrom B (fun (_ : Unit) V => DoneC w0 Wf b wn r0 SB l0 R V) := by
  rintro _ V V' row ⟨xs, r, i1, i2, i3⟩ hg hr
  exact ⟨xs, r, i1.kept hg (fun r e => ⟨Nat.le_trans h2 (hr r e).1, (hr r e).2⟩), i2.keptR hg (fun r e => ⟨Nat.le_trans h1 (hr r e).1, (hr r e).2⟩), i3⟩
/-- The loop's variables in memory, and the activation. -/
def AxC (w0 Wf W0 : World) (b wn r0 SB : Nat) (l0 : List UInt8) (T : Value → Array Value → Array Value) (pre : List Yt) (x : Yt) (a' : Act) (V : World) : Prop := ∃ C, SB < C ∧ Kc b W0 V ∧ (∀ y ∈ pre, isN y) ∧ a' = { tmps := T (.pointer (some ⟨C, 0, none⟩)) (encY x), defers := [] } ∧ JC Wf b r0 SB l0 pre V ∧ match x with
  | .nd h v _ r => Rd w0 b r wn V ∧ Nx V C h v ∧ (joinS (foY pre)).length + h.s.data.toList.length + r.length ≤ l0.length ∧ pre.length + 1 + r.length ≤ l0.length
  | .er _ => ∃ r, Rd w0 b r wn V
theorem axC_own {T : Value → Array Value → Array Value} {pre : List Yt} {x : Yt} {a' : Act} {B : Nat} (h1 : w0.heap.size ≤ B) (h2 : Wf.heap.size ≤ B) : OwnFrom B (fun (_ : Unit) V => AxC w0 Wf W0 b wn r0 SB l0 T pre x a' V) := by
  rintro _ V V' row ⟨C, i1, i2, i3, i4, i5, i6⟩ hg hr
  refine ⟨C, i1, i2.keptR hg (fun r e => (hr r e).2), i3, i4, i5.kept hg (fun r e => ⟨Nat.le_trans h2 (hr r e).1, (hr r e).2⟩), ?_⟩
  have k2 := fun r e => And.intro (Nat.le_trans h1 (hr r e).1) (hr r e).2
  cases x with
  | nd h v k r => exact ⟨i6.1.keptR hg k2, bx_kept i6.2.1 hg (fun r e => (hr r e).2), i6.2.2⟩
  | er e =>
    obtain ⟨r, j4⟩ := i6
    exact ⟨r, j4.keptR hg k2⟩
/-- A chunk more. -/
theorem jc_end {h : Hd} {v : Value} {k : Fo} {r : List UInt8} (hJ : JC Wf b r0 SB l0 xs V) (hr : Rd w0 b r wn V) (hk : Kc b W0 V) (hn : ∀ y ∈ xs, isN y) (hb : b < r0) (hS : r0 + 2 < SB) (hwf : Wf.heap.size ≤ SB) (hw0 : w0.heap.size ≤ SB)
    (hl : (joinS (foY xs)).length + h.s.data.toList.length + r.length ≤ l0.length) (hl2 : xs.length + 1 + r.length ≤ l0.length) (hB : Bld SB (joinS (foY xs) ++ h.s.data.toList) V') (hbe : Below SB V V') (ho : Lib.OthersKept 5 (some SB) V V') {B0 : Nat} (hB0 : SB < B0) :
    KeepsFrom B0 V V' ∧ IY w0 b wn l0 W0 (JC Wf b r0 SB l0) (xs ++ [.nd h v k r]) V' := by
  have hj : joinS (foY (xs ++ [.nd h v k r])) = joinS (foY xs) ++ h.s.data.toList := by
    rw [foY_snoc, joinS_app]
    show _ ++ (h.s.data.toList ++ []) = _
    rw [List.append_nil]
  refine ⟨keeps_others ho hbe.size hB0, ⟨gr_belowB hJ.gr hbe hwf, by rw [hj]; exact hB, (hbe.block _ (by omega)).trans hJ.nr, (hbe.block _ (by omega)).trans hJ.nw, by rw [hj, lastY_snoc, List.length_append]; omega⟩, by rw [lastY_snoc]; exact hr.belowB hbe hw0 (by omega), hk.trans (kc_others ho hbe.size hJ.bd), ?_, by rw [lastY_snoc, List.length_append, List.length_singleton]; omega⟩
  intro y hy
  rcases List.mem_append.1 hy with h | h
  · exact hn y h
  · rw [List.mem_singleton] at h; rw [h]; exact trivial
end
end Go.Proofs.YtppapkpceejnkaaGreatDoor
namespace Go.Proofs.YtppapkpceejnkaaGreatDoor
open Go.RowKit

attribute [local go_sem] Oper.semAt_some
set_option maxRecDepth 100000 in
theorem chunkOf_c_calls (b : Nat) (m : Int) (w : World) : Calls Tryz.prog 146 #[.pointer (some ⟨b, 0, none⟩), .int .i64 m] w fun o w' => o = .returned (.func (.func 190) #[] #[.pointer (some ⟨w.heap.size, 0, none⟩), .pointer (some ⟨w.heap.size + 1, 0, none⟩)]) ∧
    w' = (w.alloc (.cells #[.pointer (some ⟨b, 0, none⟩)] 67)).alloc (.cells #[.int .i64 m] 3) := by
  go_enter Tryz.func146, Tryz.ntmps146
  go_wp2
  go_ret
  exact ⟨rfl, rfl⟩
/-- What a string of chunks is. -/
def chR (j : Nat) (l : List UInt8) : Res (Hd × Fo) := match chunksL j l with
  | .error e => .error e
  | .ok (t, q) => .ok ((strH j t, .nil), q)
def joR (j : Nat) : Res Fo → Res (Hd × Fo)
  | .error e => .error e
  | .ok (f, q) => .ok ((strH j (joinS f), .nil), q)
theorem chR_ls (j : Nat) (l : List UInt8) : chR j l = joR j (lsL (chunkI FC j) none false false l) := by
  rw [chR, chunks_ls (F := FC) (fun m t => by show (strH m t).s.data.toList = t; simp [strH]) j _ l (Nat.lt_succ_self _)]
  cases lsL (chunkI FC j) none false false l <;> rfl
/-- No panic is let out. -/
def calmQ (Q : Exit → Act → World → Prop) : Exit → Act → World → Prop
  | .panic _, _, _ => False
  | e, a, w => Q e a w
theorem calmQ_out (Q : Exit → Act → World → Prop) : ∀ (e : Exit) (a : Act) (w : World), calmQ Q e a w → Q e a w := fun e _ _ h => by
  cases e with
  | panic c => exact h.elim
  | _ => exact h
theorem calmQ_n {Q : Exit → Act → World → Prop} {a : Act} {w : World} (h : Q .normal a w) : calmQ Q .normal a w := h
theorem nx_setc {W : World} {B C i : Nat} {h : Hd} {v u : Value} (hx : Nx W B h v) (hne : B ≠ C) : Nx (W.setCell ⟨C, i, none⟩ u) B h v := Bx.off hx hne
def tmC (b r0 SB z : Nat) (kd j a : Int) (C : Value) (en : Array Value) : Array Value := #[.pointer (some ⟨b, 0, none⟩), .int .i64 kd, hdV j 31 a, undef, undef, .pointer (some ⟨r0, 0, none⟩), .pointer (some ⟨r0 + 1, 0, none⟩), .pointer (some ⟨r0 + 1 + 1, 0, none⟩), undef, undef, .pointer (some ⟨SB, 0, none⟩), C, en.getD 1 undef, .agg #[.int .i64 j, .int .i64 31, .int .u64 a], .bool true, .bool false, undef, undef, undef, undef, undef, undef, undef, undef, undef, undef, undef, undef, undef, undef, undef, undef, .pointer (some ⟨b, 0, none⟩), .agg #[.int .i64 j, .int .i64 31, .int .u64 a], .pointer (some ⟨b, 0, none⟩), .pointer (some ⟨r0, 0, none⟩), .int .i64 j, .func (.func 190) #[] #[.pointer (some ⟨SB + 1, 0, none⟩), .pointer (some ⟨SB + 1 + 1, 0, none⟩)], .slice (some ⟨SB + 1 + 2, 0, none⟩) 1 1, .func (.func 188) #[] #[.pointer (some ⟨z + 1, 0, none⟩), .pointer (some ⟨z, 0, none⟩), .pointer (some ⟨z + 2, 0, none⟩)], en.getD 0 undef, en.getD 1 undef, undef, undef, undef, undef, undef, undef, undef, undef, undef, undef]
section
variable {w0 W : World} {b wn : Nat} {l : List UInt8}
set_option maxRecDepth 100000 in
set_option maxHeartbeats 4000000 in
theorem joined_open (j a : Nat) (hj : j = 2 ∨ j = 3) (ha : a < 18446744073709551616) (hT : Tc w0) (hl : l.length < 1000000) (h : Rd w0 b l wn W) :
    Calls Tryz.prog 102 #[.pointer (some ⟨b, 0, none⟩), .int .i64 (kindS j), hdV (j : Int) 31 (a : Int)] W (AnsP w0 b wn W (chR j l)) := by
  have H := Lib.hid h
  have HE : Hid (∀ V, Calls Tryz.prog 105 #[.agg #[.int .i64 (j : Int), .int .i64 31, .int .u64 (a : Int)]] V fun o w' => o = .returned (.bool true) ∧ Below V.heap.size V w') := Lib.hid (fun V => isOpen_calls (j : Int) 31 (a : Int) V)
  have HT := Lib.hid hT
  have HJ := Lib.hid hj
  obtain ⟨kd, hkd⟩ : ∃ kd, kd = kindS j := ⟨_, rfl⟩
  have HK := Lib.hid hkd
  rw [← hkd]
  have hbW := h.lt
  obtain ⟨R, hR⟩ : ∃ R, R = lsL (chunkI FC j) none false false l := ⟨_, rfl⟩
  have HR := Lib.hid hR
  rw [chR_ls, ← hR]
  clear h hkd hT hj hR
  refine (callsIn_wide (n := 5)).1 ?_
  refine callsIn_of_wp_marks Tryz.func102 rfl trivial ?_ rfl
  simp only [Tryz.ntmps102, List.size_toArray, List.length_cons, List.length_nil, Nat.reduceAdd, Nat.reduceSub, Array.replicate_succ, Array.replicate_zero, List.push_toArray, List.append_toArray, List.nil_append, List.cons_append]
  gi_wp2_with fail
  obtain ⟨W1, hW1⟩ : ∃ W1, W1 = ((W.alloc (.cells #[.int .i64 (j : Int), .int .i64 31, .int .u64 (a : Int)] 119)).alloc (.cells (zH.cells (.slice none 0 0)) 28)).alloc (.cells #[.nilIface] 57) := ⟨_, rfl⟩
  have hX0 : Bx W1 W.heap.size #[.int .i64 (j : Int), .int .i64 31, .int .u64 (a : Int)] 119 := by rw [hW1]; exact ((Bx.new W _ _).alloc _).alloc _
  have hX1 : Nx W1 (W.heap.size + 1) zH (.slice none 0 0) := by rw [hW1]; exact (Bx.new1 W _ _ _).alloc _
  have hX2 : Bx W1 (W.heap.size + 1 + 1) #[.nilIface] 57 := by rw [hW1]; exact Bx.new2 W _ _ _ _
  have hB1 : Below W.heap.size W W1 := by rw [hW1]; exact below_a (below_a (below_a (Below.refl _ W) _) _) _
  simp only [zH, Hd.cells, Int.cast_ofNat_Int] at hW1
  rw [← hW1]
  clear hW1
  refine ⟨trivial, (callsIn_wide (n := _)).2 ?_⟩
  refine (HE.out _).mono ?_
  rintro o w2 ⟨rfl, hb2⟩
  have HX0 := Lib.hid (hX0.below hb2)
  have HX1 := Lib.hid (hX1.below hb2)
  have HX2 := Lib.hid (hX2.below hb2)
  have HB2 := Lib.hid (below_nx hB1 hb2)
  have H2 := Lib.hid (H.out.below HB2.out)
  clear hX0 hX1 hX2 hB1 hb2
  obtain ⟨e0, e1, e2⟩ := bx3 HX0.out
  have hl2 := HX2.out.lt
  gi_wp2_with fail
  obtain ⟨SB, hSB⟩ : ∃ SB, SB = w2.heap.size := ⟨_, rfl⟩
  obtain ⟨W2, hW2⟩ : ∃ W2, W2 = w2.alloc (.cells #[.pointer none, .slice none 0 0] 132) := ⟨_, rfl⟩
  have HBd := Lib.hid (show Bld SB [] W2 from by rw [hW2, hSB]; exact bld_new)
  have HY0 := Lib.hid (show Bx W2 W.heap.size #[.int .i64 (j : Int), .int .i64 31, .int .u64 (a : Int)] 119 from by rw [hW2]; exact HX0.out.alloc _)
  have HY1 := Lib.hid (show Nx W2 (W.heap.size + 1) zH (.slice none 0 0) from by rw [hW2]; exact HX1.out.alloc _)
  have HY2 := Lib.hid (show Bx W2 (W.heap.size + 1 + 1) #[.nilIface] 57 from by rw [hW2]; exact HX2.out.alloc _)
  have HB3 := Lib.hid (show Below W.heap.size W W2 from by rw [hW2]; exact below_nx HB2.out (below_a (Below.refl _ _) _))
  have hs2 : W2.heap.size = SB + 1 := by rw [hW2, hSB]; simp
  rw [← hSB] at hl2 ⊢
  rw [← hW2]
  clear hW2 HX0 HX1 HX2 HB2 H2 e0 e1 e2 hSB
  obtain ⟨e0, e1, e2⟩ := bx3 (show Bx W2.drew _ _ _ from HY0.out)
  obtain ⟨d0, d1, d2⟩ := bx3 HY0.out
  have hl0 := HY0.out.lt
  have hmx1 := hmxH
  obtain ⟨f0, f1, f2⟩ := bx3 (show Bx ((W2.drew.alloc (.cells #[.pointer (some ⟨b, 0, none⟩)] 67)).alloc (.cells #[.int .i64 (j : Int)] 3)) _ _ _ from (HY0.out.drew.alloc _).alloc _)
  obtain ⟨g0, g1, g2⟩ := bx3 (show Bx (((W2.drew.alloc (.cells #[.pointer (some ⟨b, 0, none⟩)] 67)).alloc (.cells #[.int .i64 (j : Int)] 3)).alloc (.cells #[.func (.func 190) #[] #[.pointer (some ⟨SB + 1, 0, none⟩), .pointer (some ⟨SB + 1 + 1, 0, none⟩)]] 69)) _ _ _ from ((HY0.out.drew.alloc _).alloc _).alloc _)
  refine wpIn_mono (Q := calmQ _) ?_ (calmQ_out _)
  refine wpIn_region_any hmx1 ?_
  change wpAnyIn _ _ _ _ _ _ _ _ _ (World.drew _)
  refine wpAnyIn_take (i := 0) (v := .pointer (some ⟨b, 0, none⟩)) rfl rfl (by kernel_rfl) (by kernel_rfl) (by kernel_rfl) (fun _ _ _ h => h) ⟨Or.inl ⟨by rfl, by intro w; go_simp⟩, fun _ => rfl⟩ ?_
  refine wpAnyIn_take (i := 2) (v := .pointer (some ⟨b, 0, none⟩)) rfl rfl (by kernel_rfl) (by kernel_rfl) (by kernel_rfl) (fun _ _ _ h => h) ⟨Or.inl ⟨by rfl, by intro w; go_simp⟩, fun _ => rfl⟩ ?_
  refine wpAnyIn_take (i := 3) (v := .pointer (some ⟨W.heap.size, 0, none⟩)) rfl rfl (by kernel_rfl) (by kernel_rfl) (by kernel_rfl) (fun _ _ _ h => h) ⟨Or.inl ⟨by rfl, by intro w; go_simp⟩, fun _ => rfl⟩ ?_
  refine wpAnyIn_ready (rs := [1, 4]) (by kernel_rfl) (by simp) ?_
  refine AllReadyIn.cons rfl (fun K hK => ?_) (AllReadyIn.cons rfl (fun K hK => ?_) AllReadyIn.nil)
  case' refine_1 =>
    go_simp
    refine hK _ _ ?_
    clear hK K
    refine wpAnyIn_ready (rs := [4]) (by kernel_rfl) (by simp) ?_
    refine AllReadyIn.cons rfl (fun K hK => ?_) AllReadyIn.nil
    go_simp
    refine hK _ _ ?_
    clear hK K
    refine wpAnyIn_ready (rs := [5]) (by kernel_rfl) (by simp) ?_
    refine AllReadyIn.cons rfl (fun K hK => ?_) AllReadyIn.nil
    go_simp
    refine ⟨trivial, ?_⟩
    refine (callsIn_wide.2 (chunkOf_c_calls _ _ _)).mono ?_
    rintro o w4 ⟨rfl, rfl⟩
    obtain ⟨W4, hW4⟩ : ∃ W4, W4 = (W2.drew.alloc (.cells #[.pointer (some ⟨b, 0, none⟩)] 67)).alloc (.cells #[.int .i64 (j : Int)] 3) := ⟨_, rfl⟩
    have HW4 := Lib.hid hW4
    have e0 : W4.cell? ⟨W.heap.size, 0, none⟩ = some (.int .i64 (j : Int)) := by rw [hW4]; exact f0
    have e1 : W4.cell? ⟨W.heap.size, 1, none⟩ = some (.int .i64 31) := by rw [hW4]; exact f1
    have e2 : W4.cell? ⟨W.heap.size, 2, none⟩ = some (.int .u64 (a : Int)) := by rw [hW4]; exact f2
    have hs4 : W4.heap.size = W2.heap.size + 2 := by rw [hW4]; simp
    rw [← hW4]
    clear hW4
    refine hK _ _ ?_
    clear hK K
    refine wpAnyIn_ready (rs := [6]) (by kernel_rfl) (by simp) ?_
    refine AllReadyIn.cons rfl (fun K hK => ?_) AllReadyIn.nil
    go_simp
    obtain ⟨W5, hW5⟩ : ∃ W5, W5 = W4.alloc (.cells #[.func (.func 190) #[] #[.pointer (some ⟨SB + 1, 0, none⟩), .pointer (some ⟨SB + 1 + 1, 0, none⟩)]] 69) := ⟨_, rfl⟩
    have HW5 := Lib.hid hW5
    have e0 : W5.cell? ⟨W.heap.size, 0, none⟩ = some (.int .i64 (j : Int)) := by rw [hW5, HW4.out]; exact g0
    have e1 : W5.cell? ⟨W.heap.size, 1, none⟩ = some (.int .i64 31) := by rw [hW5, HW4.out]; exact g1
    have e2 : W5.cell? ⟨W.heap.size, 2, none⟩ = some (.int .u64 (a : Int)) := by rw [hW5, HW4.out]; exact g2
    have hs5 : W5.heap.size = W2.heap.size + 3 := by rw [hW5]; simp; omega
    rw [← hW5]
    clear hW5
    refine hK _ _ ?_
    clear hK K
    refine wpAnyIn_ready (rs := [7]) (by kernel_rfl) (by simp) ?_
    refine AllReadyIn.cons rfl (fun K hK => ?_) AllReadyIn.nil
    go_simp
    refine ⟨trivial, ?_⟩
    refine (callsIn_wide.2 (through_c_calls _ _ _ _ _ _ _ _)).mono ?_
    rintro o w6 ⟨rfl, rfl⟩
    refine hK _ _ ?_
    clear hK K
    refine wpAnyIn_done (by kernel_rfl) ?_ _
  case' refine_2 =>
    go_simp
    refine hK _ _ ?_
    clear hK K
    refine wpAnyIn_ready (rs := [1, 5]) (by kernel_rfl) (by simp) ?_
    refine AllReadyIn.cons rfl (fun K hK => ?_) (AllReadyIn.cons rfl (fun K hK => ?_) AllReadyIn.nil)
    case' refine_1 =>
      go_simp
      refine hK _ _ ?_
      clear hK K
      refine wpAnyIn_ready (rs := [5]) (by kernel_rfl) (by simp) ?_
      refine AllReadyIn.cons rfl (fun K hK => ?_) AllReadyIn.nil
      go_simp
      refine ⟨trivial, ?_⟩
      refine (callsIn_wide.2 (chunkOf_c_calls _ _ _)).mono ?_
      rintro o w4 ⟨rfl, rfl⟩
      obtain ⟨W4, hW4⟩ : ∃ W4, W4 = (W2.drew.alloc (.cells #[.pointer (some ⟨b, 0, none⟩)] 67)).alloc (.cells #[.int .i64 (j : Int)] 3) := ⟨_, rfl⟩
      have HW4 := Lib.hid hW4
      have e0 : W4.cell? ⟨W.heap.size, 0, none⟩ = some (.int .i64 (j : Int)) := by rw [hW4]; exact f0
      have e1 : W4.cell? ⟨W.heap.size, 1, none⟩ = some (.int .i64 31) := by rw [hW4]; exact f1
      have e2 : W4.cell? ⟨W.heap.size, 2, none⟩ = some (.int .u64 (a : Int)) := by rw [hW4]; exact f2
      have hs4 : W4.heap.size = W2.heap.size + 2 := by rw [hW4]; simp
      rw [← hW4]
      clear hW4
      refine hK _ _ ?_
      clear hK K
      refine wpAnyIn_ready (rs := [6]) (by kernel_rfl) (by simp) ?_
      refine AllReadyIn.cons rfl (fun K hK => ?_) AllReadyIn.nil
      go_simp
      obtain ⟨W5, hW5⟩ : ∃ W5, W5 = W4.alloc (.cells #[.func (.func 190) #[] #[.pointer (some ⟨SB + 1, 0, none⟩), .pointer (some ⟨SB + 1 + 1, 0, none⟩)]] 69) := ⟨_, rfl⟩
      have HW5 := Lib.hid hW5
      have e0 : W5.cell? ⟨W.heap.size, 0, none⟩ = some (.int .i64 (j : Int)) := by rw [hW5, HW4.out]; exact g0
      have e1 : W5.cell? ⟨W.heap.size, 1, none⟩ = some (.int .i64 31) := by rw [hW5, HW4.out]; exact g1
      have e2 : W5.cell? ⟨W.heap.size, 2, none⟩ = some (.int .u64 (a : Int)) := by rw [hW5, HW4.out]; exact g2
      have hs5 : W5.heap.size = W2.heap.size + 3 := by rw [hW5]; simp; omega
      rw [← hW5]
      clear hW5
      refine hK _ _ ?_
      clear hK K
      refine wpAnyIn_ready (rs := [7]) (by kernel_rfl) (by simp) ?_
      refine AllReadyIn.cons rfl (fun K hK => ?_) AllReadyIn.nil
      go_simp
      refine ⟨trivial, ?_⟩
      refine (callsIn_wide.2 (through_c_calls _ _ _ _ _ _ _ _)).mono ?_
      rintro o w6 ⟨rfl, rfl⟩
      refine hK _ _ ?_
      clear hK K
      refine wpAnyIn_done (by kernel_rfl) ?_ _
    case' refine_2 =>
      go_simp
      refine ⟨trivial, ?_⟩
      refine (callsIn_wide.2 (chunkOf_c_calls _ _ _)).mono ?_
      rintro o w4 ⟨rfl, rfl⟩
      obtain ⟨W4, hW4⟩ : ∃ W4, W4 = (W2.drew.alloc (.cells #[.pointer (some ⟨b, 0, none⟩)] 67)).alloc (.cells #[.int .i64 (j : Int)] 3) := ⟨_, rfl⟩
      have HW4 := Lib.hid hW4
      have e0 : W4.cell? ⟨W.heap.size, 0, none⟩ = some (.int .i64 (j : Int)) := by rw [hW4]; exact f0
      have e1 : W4.cell? ⟨W.heap.size, 1, none⟩ = some (.int .i64 31) := by rw [hW4]; exact f1
      have e2 : W4.cell? ⟨W.heap.size, 2, none⟩ = some (.int .u64 (a : Int)) := by rw [hW4]; exact f2
      have hs4 : W4.heap.size = W2.heap.size + 2 := by rw [hW4]; simp
      rw [← hW4]
      clear hW4
      refine hK _ _ ?_
      clear hK K
      refine wpAnyIn_ready (rs := [1, 6]) (by kernel_rfl) (by simp) ?_
      refine AllReadyIn.cons rfl (fun K hK => ?_) (AllReadyIn.cons rfl (fun K hK => ?_) AllReadyIn.nil)
      case' refine_1 =>
        go_simp
        refine hK _ _ ?_
        clear hK K
        refine wpAnyIn_ready (rs := [6]) (by kernel_rfl) (by simp) ?_
        refine AllReadyIn.cons rfl (fun K hK => ?_) AllReadyIn.nil
        go_simp
        obtain ⟨W5, hW5⟩ : ∃ W5, W5 = W4.alloc (.cells #[.func (.func 190) #[] #[.pointer (some ⟨SB + 1, 0, none⟩), .pointer (some ⟨SB + 1 + 1, 0, none⟩)]] 69) := ⟨_, rfl⟩
        have HW5 := Lib.hid hW5
        have e0 : W5.cell? ⟨W.heap.size, 0, none⟩ = some (.int .i64 (j : Int)) := by rw [hW5, HW4.out]; exact g0
        have e1 : W5.cell? ⟨W.heap.size, 1, none⟩ = some (.int .i64 31) := by rw [hW5, HW4.out]; exact g1
        have e2 : W5.cell? ⟨W.heap.size, 2, none⟩ = some (.int .u64 (a : Int)) := by rw [hW5, HW4.out]; exact g2
        have hs5 : W5.heap.size = W2.heap.size + 3 := by rw [hW5]; simp; omega
        rw [← hW5]
        clear hW5
        refine hK _ _ ?_
        clear hK K
        refine wpAnyIn_ready (rs := [7]) (by kernel_rfl) (by simp) ?_
        refine AllReadyIn.cons rfl (fun K hK => ?_) AllReadyIn.nil
        go_simp
        refine ⟨trivial, ?_⟩
        refine (callsIn_wide.2 (through_c_calls _ _ _ _ _ _ _ _)).mono ?_
        rintro o w6 ⟨rfl, rfl⟩
        refine hK _ _ ?_
        clear hK K
        refine wpAnyIn_done (by kernel_rfl) ?_ _
      case' refine_2 =>
        go_simp
        obtain ⟨W5, hW5⟩ : ∃ W5, W5 = W4.alloc (.cells #[.func (.func 190) #[] #[.pointer (some ⟨SB + 1, 0, none⟩), .pointer (some ⟨SB + 1 + 1, 0, none⟩)]] 69) := ⟨_, rfl⟩
        have HW5 := Lib.hid hW5
        have e0 : W5.cell? ⟨W.heap.size, 0, none⟩ = some (.int .i64 (j : Int)) := by rw [hW5, HW4.out]; exact g0
        have e1 : W5.cell? ⟨W.heap.size, 1, none⟩ = some (.int .i64 31) := by rw [hW5, HW4.out]; exact g1
        have e2 : W5.cell? ⟨W.heap.size, 2, none⟩ = some (.int .u64 (a : Int)) := by rw [hW5, HW4.out]; exact g2
        have hs5 : W5.heap.size = W2.heap.size + 3 := by rw [hW5]; simp; omega
        rw [← hW5]
        clear hW5
        refine hK _ _ ?_
        clear hK K
        refine wpAnyIn_ready (rs := [1]) (by kernel_rfl) (by simp) ?_
        refine AllReadyIn.cons rfl (fun K hK => ?_) AllReadyIn.nil
        go_simp
        refine hK _ _ ?_
        clear hK K
        refine wpAnyIn_ready (rs := [7]) (by kernel_rfl) (by simp) ?_
        refine AllReadyIn.cons rfl (fun K hK => ?_) AllReadyIn.nil
        go_simp
        refine ⟨trivial, ?_⟩
        refine (callsIn_wide.2 (through_c_calls _ _ _ _ _ _ _ _)).mono ?_
        rintro o w6 ⟨rfl, rfl⟩
        refine hK _ _ ?_
        clear hK K
        refine wpAnyIn_done (by kernel_rfl) ?_ _
  all_goals
    obtain ⟨W0, hW0⟩ : ∃ W0, W0 = ((W5.alloc (.cells #[.pointer (some ⟨b, 0, none⟩)] 67)).alloc (.cells #[.int .i64 (j : Int), .int .i64 31, .int .u64 (a : Int)] 119)).alloc (.cells #[.slice (some ⟨SB + 1 + 2, 0, none⟩) 1 1] 208) := ⟨_, rfl⟩
    rw [← hW0]
    have hb45 : Below W4.heap.size W4 W5 := by rw [HW5.out]; exact below_a (Below.refl _ _) _
    have hb50 : Below W5.heap.size W5 W0 := by rw [hW0]; exact below_a (below_a (below_a (Below.refl _ _) _) _) _
    have hb24 : Below W2.heap.size W2 W4 := by rw [HW4.out]; exact below_a (below_a ((Below.refl _ _).drew) _) _
    have hb40 : Below W4.heap.size W4 W0 := below_nx hb45 hb50
    have hb20 : Below W2.heap.size W2 W0 := below_nx hb24 hb40
    have hc1 : Bx W4 (SB + 1) #[.pointer (some ⟨b, 0, none⟩)] 67 := by
      rw [HW4.out, ← hs2]
      exact (Bx.new W2.drew _ _).alloc _
    have hc2 : Bx W4 (SB + 1 + 1) #[.int .i64 (j : Int)] 3 := by
      rw [HW4.out, ← hs2]
      exact Bx.new1 W2.drew _ _ _
    have hSx : Bx W5 (SB + 1 + 2) #[.func (.func 190) #[] #[.pointer (some ⟨SB + 1, 0, none⟩), .pointer (some ⟨SB + 1 + 1, 0, none⟩)]] 69 := by
      rw [HW5.out, show SB + 1 + 2 = W4.heap.size by omega]
      exact Bx.new W4 _ _
    have hTh : Th W0 b (W5.heap.size + 1) W5.heap.size (W5.heap.size + 2) (SB + 1 + 2) (SB + 1) (SB + 1 + 1) false false (j : Int) 31 (a : Int) := by
      refine ⟨?_, ?_, ?_, hSx.below hb50, by omega, by omega, by omega, by omega⟩
      · rw [hW0]; exact (Bx.new1 W5 _ _ _).alloc _
      · rw [hW0]; exact ((Bx.new W5 _ _).alloc _).alloc _
      · rw [hW0]; exact Bx.new2 W5 _ _ _ _
    have HTh := Lib.hid hTh
    have HC1 := Lib.hid (hc1.below hb40)
    have HC2 := Lib.hid (hc2.below hb40)
    have hB0 : Below W.heap.size W W0 := below_nx HB3.out hb20
    have HR0 := Lib.hid (H.out.below hB0)
    have HB0 := Lib.hid hB0
    have hz0 : SB < W0.heap.size := by have := hb20.size; omega
    have HJ0 : Hid (JC W b W.heap.size SB l [] W0) := Lib.hid ⟨gr_below hB0, bld_below HBd.out hb20, HY1.out.below hb20, HY2.out.below hb20, by show 0 + l.length ≤ l.length; omega⟩
    have hw0 := H.out.base
    clear hs5 hs4 hW0 hb45 hb50 hb24 hb40 hb20 hc1 hc2 hSx hTh hB0 e0 e1 e2 f0 f1 f2 g0 g1 g2 HBd HY0 HY1 HY2 HB3
    refine calmQ_n ?_
    gi_wp2_with fail
    refine wpIn_range_run (α := Yt) (enc := encY) rfl (by omega) (gf := 188) rfl trivial (enters_of Tryz.func188 (by kernel_rfl) rfl) (fun x => by cases x <;> rfl)
      (IY w0 b wn l W0 (JC W b W.heap.size SB l)) (YY w0 b wn l W0 (JC W b W.heap.size SB l) (chunkI FC j)) (IX (JXC w0 W b wn W.heap.size)) (DoneC w0 W b wn W.heap.size SB l R) (LeftY (JXC w0 W b wn W.heap.size) R)
      (AxC w0 W W0 b wn W.heap.size SB l (tmC b W.heap.size SB W5.heap.size kd (j : Int) (a : Int)))
      (iyc_own (by omega) (by omega)) ?_ (doneC_own (by omega) (by omega)) ?_ (fun _ _ _ => axC_own (by omega) (by omega)) ⟨HJ0.out, HR0.out, Kc.refl, (fun x hx => by cases hx), by show 0 + l.length ≤ l.length; omega⟩ ?_ ?_ ?_ ?_ ?_
    · intro x c
      cases x with
      | nd h v k r => exact fun _ _ _ _ hs _ _ => hs.elim
      | er e => exact jxc_own (by omega) (by omega)
    · rintro c _ V V' row ⟨e, h1, h2⟩ hg hr
      exact ⟨e, h1, jxc_own (e := e) (c := c) (B := W0.heap.size) (by omega) (by omega) () V V' row h2 hg hr⟩
    · intro l' pre x V K hY hK
      obtain ⟨Vp, ⟨j1, j2, j3, j4, j5⟩, hgr, hx⟩ := hY
      have hzp := j3.1
      have hzv := hgr.size
      have j1v := j1.step hgr hbW (by omega)
      have hln := j1.ln
      cases x with
      | nd h' v' k' r =>
        obtain ⟨r1, r2, r3, r4, r5⟩ := hx
        obtain ⟨A', c', rfl, _, _, _⟩ := r2.form
        have hcb := (chunk_bytes r5).1
        have hax : AxC w0 W W0 b wn W.heap.size SB l (tmC b W.heap.size SB W5.heap.size kd (j : Int) (a : Int)) pre (.nd h' (.slice A' k'.len c') k' r) { tmps := tmC b W.heap.size SB W5.heap.size kd (j : Int) (a : Int) (.pointer (some ⟨V.heap.size, 0, none⟩)) (encY (.nd h' (.slice A' k'.len c') k' r)), defers := [] } (V.alloc (.cells (h'.cells (.slice A' k'.len c')) 28)) :=
          ⟨V.heap.size, by omega, (j3.trans (Kc.gr hgr)).trans (Kc.below (below_a (Below.refl _ _) _)), j4, rfl, j1v.step (gr_alloc _ _ _) hbW (by omega), r1.alloc _, Nx.new V _ _, by omega, by omega⟩
        have HA := Lib.hid hax
        have HK2 := Lib.hid hK
        simp only [encY, Hd.cells, tmC] at HA ⊢
        clear hax hK hgr r1 r2 j1 j2 j3 j1v
        gi_wp2
        exact HK2.out _ _ ((KeepsOthers.alloc _ _).from _) HA.out
      | er e =>
        obtain ⟨r, r1⟩ := hx
        have hax : AxC w0 W W0 b wn W.heap.size SB l (tmC b W.heap.size SB W5.heap.size kd (j : Int) (a : Int)) pre (.er e) { tmps := tmC b W.heap.size SB W5.heap.size kd (j : Int) (a : Int) (.pointer (some ⟨V.heap.size, 0, none⟩)) (encY (.er e)), defers := [] } (V.alloc (.cells (zH.cells (.slice none 0 0)) 28)) :=
          ⟨V.heap.size, by omega, (j3.trans (Kc.gr hgr)).trans (Kc.below (below_a (Below.refl _ _) _)), j4, rfl, j1v.step (gr_alloc _ _ _) hbW (by omega), r, r1.alloc _⟩
        have HA := Lib.hid hax
        have HK2 := Lib.hid hK
        simp only [encY, zH, Hd.cells, Int.cast_ofNat_Int, tmC] at HA ⊢
        clear hax hK hgr r1 j1 j2 j3 j1v
        gi_wp2
        exact HK2.out _ _ ((KeepsOthers.alloc _ _).from _) HA.out
    · intro l' pre x a' V hl' hA
      obtain ⟨C, i1, i2, i3, rfl, i5, i6⟩ := hA
      have hzw := i5.nw.lt
      have HJ := Lib.hid i5
      have HKc := Lib.hid i2
      have hzV := i2.1
      cases x with
      | er e =>
        obtain ⟨r, j4⟩ := i6
        have HR4 := Lib.hid j4
        have c0 : V.cell? ⟨W.heap.size + 1 + 1, 0, none⟩ = some .nilIface := i5.nw.c 0 rfl
        have f0 : V.frozen? ⟨W.heap.size + 1 + 1, 0, none⟩ = false := i5.nw.f 0
        obtain ⟨p0, p1, p2, p3, p4, p5, p6, p7, p8⟩ := i5.nr.nine
        obtain ⟨x0, x1, x2, x3, x4, x5, x6, x7, x8⟩ := nx_f i5.nr
        simp only [encY, tmC]
        clear i5 j4 i2
        gi_wp2_with fail
        have g1 := gr_setN V (W.heap.size + 1) zH (.slice none 0 0)
        have g2 := gr_set (setN V (W.heap.size + 1) zH (.slice none 0 0)) (W.heap.size + 1 + 1) 0 (fltV (e : Int))
        exact (show KeepsFrom W0.heap.size V ((setN V (W.heap.size + 1) zH (.slice none 0 0)).setCell ⟨W.heap.size + 1 + 1, 0, none⟩ (fltV (e : Int))) ∧ JXC w0 W b wn W.heap.size e .ret ((setN V (W.heap.size + 1) zH (.slice none 0 0)).setCell ⟨W.heap.size + 1 + 1, 0, none⟩ (fltV (e : Int))) from
          ⟨(KeepsFrom.of_grownBy g1 (fun j e => by have := Option.some.inj e; omega)).trans (KeepsFrom.of_grownBy g2 (fun j e => by have := Option.some.inj e; omega)), rfl, gr_new (gr_new HJ.out.gr g1 (by omega)) g2 (by omega), nx_setc (Nx.setN HJ.out.nr _ _) (by omega), Bx.set (gr_bx HJ.out.nw g1 (fun e => by have := Option.some.inj e; omega)) 0 _, r, (HR4.out.other g1 (by omega) (by omega)).other g2 (by omega) (by omega)⟩)
      | nd h' v' k' r =>
        obtain ⟨j1, j2, j3, j4⟩ := i6
        have HR4 := Lib.hid j1
        have c7 : V.cell? ⟨C, 7, none⟩ = some (.string h'.s) := j2.nine.2.2.2.2.2.2.2.1
        have hlC := j2.lt
        simp only [encY, tmC, Hd.cells]
        clear i5 j1 j2 i2
        gi_wp2_with fail
        refine ⟨trivial, ?_⟩
        refine (CallsIn.inRound l' (callsIn_wide.2 (writeK_calls SB _ h'.s V HJ.out.bd (by omega) (by omega)))).mono ?_
        rintro e V' ⟨rfl, hB', hbe, ho⟩
        have HE2 := Lib.hid (jc_end (B0 := W0.heap.size) (k := k') (v := v') HJ.out HR4.out HKc.out i3 hbW (by omega) (by omega) (by omega) j3 j4 hB' hbe ho hz0)
        clear hB' hbe ho
        gi_wp2
        exact HE2.out
    · intro W1 hW1 hI
      refine (through_runs (5 - 1) (W5.heap.size + 1) W5.heap.size (W5.heap.size + 2) (SB + 1 + 2) (SB + 1) (SB + 1 + 1) false false j 31 a (chunkI FC j) (chunkI_eats j) (by decide) ha hl (by omega) HTh.out (fun l' V hk hr hle => ?_) (by rw [if_pos rfl]; exact HR.out) W1).mono (fun V hV => doneC_of (by omega) (by omega) hV)
      exact chunk_calls j (SB + 1) (SB + 1 + 1) HJ.out HT.out (by omega) hr (hk.bx HC1.out (by decide) (by omega)) (hk.bx HC2.out (by decide) (by omega)) (by omega) (by omega)
    · intro D V hD hdn hDf
      obtain ⟨xs, r, j1, j2, hR2⟩ := hdn
      have HJ := Lib.hid j1
      have HR4 := Lib.hid j2
      have HDf := Lib.hid hDf
      subst hR2
      have hzw := j1.nw.lt
      have hSV : SB ≤ V.heap.size := by
        obtain ⟨cs, fr, h5⟩ := bld_ty j1.bd
        have := (Array.getElem?_eq_some_iff.1 h5).1
        omega
      clear j1 j2 hDf
      gi_wp2_with fail
      refine ⟨trivial, ?_⟩
      refine (callsIn_wide.2 (stringK_calls SB _ V HJ.out.bd hSV)).mono ?_
      rintro o V1 ⟨rfl, hbe, ho⟩
      have HN1 := Lib.hid (show Nx V1 (W.heap.size + 1) zH (.slice none 0 0) from (hbe.block _ (by omega)).trans HJ.out.nr)
      have HW1 := Lib.hid (show Bx V1 (W.heap.size + 1 + 1) #[.nilIface] 57 from (hbe.block _ (by omega)).trans HJ.out.nw)
      have HG1 := Lib.hid (gr_belowB HJ.out.gr hbe (by omega))
      have HR1 := Lib.hid (HR4.out.belowB hbe (by omega) (by omega))
      have HD1 := Lib.hid (show V1.heap[D]? = some (.deferred (some [])) from ho D _ HDf.out (fun e => by have := Option.some.inj e; omega) (fun c fz e => by cases e))
      have hz1 : W.heap.size + 1 + 1 < V1.heap.size := HW1.out.lt
      have c0 : V1.cell? ⟨W.heap.size + 1 + 1, 0, none⟩ = some .nilIface := HW1.out.c 0 rfl
      have f0 : V1.frozen? ⟨W.heap.size + 1 + 1, 0, none⟩ = false := HW1.out.f 0
      obtain ⟨p0, p1, p2, p3, p4, p5, p6, p7, p8⟩ := HN1.out.nine
      obtain ⟨x0, x1, x2, x3, x4, x5, x6, x7, x8⟩ := nx_f HN1.out
      clear hbe ho
      gi_wp2
      obtain ⟨Z, hZ⟩ : ∃ Z, Z = (setN V1 (W.heap.size + 1) ⟨kd, false, false, ⟨#[]⟩, 0, 0, 0, ⟨(joinS (foY xs)).toArray⟩⟩ (.slice none 0 0)).setCell ⟨W.heap.size + 1 + 1, 0, none⟩ .nilIface := ⟨_, rfl⟩
      have g1 := gr_setN V1 (W.heap.size + 1) ⟨kd, false, false, ⟨#[]⟩, 0, 0, 0, ⟨(joinS (foY xs)).toArray⟩⟩ (.slice none 0 0)
      have g2 := gr_set (setN V1 (W.heap.size + 1) ⟨kd, false, false, ⟨#[]⟩, 0, 0, 0, ⟨(joinS (foY xs)).toArray⟩⟩ (.slice none 0 0)) (W.heap.size + 1 + 1) 0 .nilIface
      rw [← hZ] at g2
      have hX5 : Nx Z (W.heap.size + 1) ⟨kd, false, false, ⟨#[]⟩, 0, 0, 0, ⟨(joinS (foY xs)).toArray⟩⟩ (.slice none 0 0) := by rw [hZ]; exact nx_setc (Nx.setN HN1.out _ _) (by omega)
      have hY5 : Bx Z (W.heap.size + 1 + 1) #[.nilIface] 57 := by rw [hZ]; exact Bx.set (gr_bx HW1.out g1 (fun e => by have := Option.some.inj e; omega)) 0 _
      have hG5 : W.grownBy Z (some b) := gr_new (gr_new HG1.out g1 (by omega)) g2 (by omega)
      have hR5 : Rd w0 b r wn Z := (HR1.out.other g1 (by omega) (by omega)).other g2 (by omega) (by omega)
      have hD5 : Z.heap[D]? = some (.deferred (some [])) := by
        have hl1 := (Array.getElem?_eq_some_iff.1 HD1.out).1
        refine (g2.block D (by have := g1.size; omega) (fun e => by have := Option.some.inj e; omega)).trans ((g1.block D hl1 (fun e => by have := Option.some.inj e; omega)).trans HD1.out)
      clear g1 g2
      simp only [setN, Int.cast_ofNat_Int] at hZ
      rw [← hZ]
      clear hZ
      refine door_markC hD5 ?_
      have hg6 := grownBy_putObj' Z D (.deferred none)
      have hr6 : ∀ r, some D = some r → W.heap.size ≤ r ∧ ∃ o : Obj, Z.heap[r]? = some o ∧ o.isCells = false := fun r e => by cases e; exact ⟨by omega, _, hD5, rfl⟩
      have hX6 := bx_kept hX5 hg6 (fun r e => (hr6 r e).2)
      have hY6 := bx_kept hY5 hg6 (fun r e => (hr6 r e).2)
      refine ⟨_, res_cc Tryz.results102 _ _ (W.heap.size + 1) (W.heap.size + 1 + 1) _ _ rfl rfl (ldNd hX6) (hY6.c 0 rfl), ?_⟩
      refine ⟨gr_keptR hG5 hg6 (fun r e => (hr6 r e).1), .slice none 0 0, ?_, hR5.keptR hg6 (fun r e => ⟨by have := (hr6 r e).1; omega, (hr6 r e).2⟩), kd_nil, by show (0 : Nat) < _; decide⟩
      rw [HK.out]
      rfl
    · intro D c V hD hlf hDf
      obtain ⟨e, hR2, rfl, i1, i2, i3, r, i4⟩ := hlf
      have HG1 := Lib.hid i1
      have HN := Lib.hid i2
      have HW := Lib.hid i3
      have HR4 := Lib.hid i4
      have HDf := Lib.hid hDf
      subst hR2
      gi_wp2
      refine door_markC HDf.out ?_
      have hg6 := grownBy_putObj' V D (.deferred none)
      have hr6 : ∀ r, some D = some r → W.heap.size ≤ r ∧ ∃ o : Obj, V.heap[r]? = some o ∧ o.isCells = false := fun r e => by cases e; exact ⟨by omega, _, HDf.out, rfl⟩
      have hX6 := bx_kept HN.out hg6 (fun r e => (hr6 r e).2)
      have hY6 := bx_kept HW.out hg6 (fun r e => (hr6 r e).2)
      refine ⟨_, res_cc Tryz.results102 _ _ (W.heap.size + 1) (W.heap.size + 2) _ _ rfl rfl (ldNd hX6) (hY6.c 0 rfl), ?_⟩
      exact ⟨gr_keptR HG1.out hg6 (fun r e => (hr6 r e).1), rfl, r, HR4.out.keptR hg6 (fun r e => ⟨by have := (hr6 r e).1; omega, (hr6 r e).2⟩)⟩
end
end Go.Proofs.YtppapkpceejnkaaGreatDoor
