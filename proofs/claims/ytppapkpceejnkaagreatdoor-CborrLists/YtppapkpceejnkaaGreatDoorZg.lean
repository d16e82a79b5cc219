/- The reader in memory; what reads of it what is no node. The program's own: firstOf, heading, take, ends, begins, nothing. The program's own: heading, take, ends, begins, nothing. The program's own: number, other. -/
import Derived.Test.YtppapkpceejnkaaGreatDoorZe
import Derived.Test.YtppapkpceejnkaaGreatDoorMp
import Derived.Test.YtppapkpceejnkaaGreatDoorMe
namespace Go.Proofs.YtppapkpceejnkaaGreatDoor
open Go.RowKit

/-- What the world must hold. -/
def Tc (w : World) : Prop := (Tq w ∧ Tab w) ∧ SizT w ∧ ErT w
theorem ErT.below {A B : World} (h : ErT A) (hb : Below A.heap.size A B) : ErT B := (hb.cell (p := ⟨2, 0, none⟩) (lt_of_cell0 h)).trans h
theorem Tc.below {A B : World} (h : Tc A) (hb : Below A.heap.size A B) : Tc B := ⟨⟨h.1.1.below hb, h.1.2.below hb⟩, h.2.1.below hb, h.2.2.below hb⟩
def majB (b : Nat) : List Value := [.func (.func 59) #[.pointer (some ⟨b, 0, none⟩)] #[], .func (.func 59) #[.pointer (some ⟨b, 0, none⟩)] #[], .func (.func 60) #[.pointer (some ⟨b, 0, none⟩)] #[], .func (.func 61) #[.pointer (some ⟨b, 0, none⟩)] #[], .func (.func 62) #[.pointer (some ⟨b, 0, none⟩)] #[], .func (.func 63) #[.pointer (some ⟨b, 0, none⟩)] #[], .func (.func 64) #[.pointer (some ⟨b, 0, none⟩)] #[], .func (.func 65) #[.pointer (some ⟨b, 0, none⟩)] #[]]
def rcs (b : Nat) (s : ByteArray) (wn : Nat) : Array Value := (.string s :: .int .i64 (wn : Int) :: majB b).toArray
/-- The reader in block b: what is left, within how many; nothing that w0 held has turned. -/
structure Rd (w0 : World) (b : Nat) (l : List UInt8) (wn : Nat) (W : World) : Prop where
  hb : w0.heap.size ≤ b
  hw : Below w0.heap.size w0 W
  bx : Bx W b (rcs b ⟨l.toArray⟩ wn) 76
section
variable {w0 W W' : World} {b wn : Nat} {l : List UInt8}
theorem Rd.lt (h : Rd w0 b l wn W) : b < W.heap.size := h.bx.lt
theorem Rd.base (h : Rd w0 b l wn W) : w0.heap.size ≤ W.heap.size := h.hw.size
theorem Rd.below (h : Rd w0 b l wn W) (hb : Below W.heap.size W W') : Rd w0 b l wn W' := ⟨h.hb, h.hw.trans (hb.mono h.base), h.bx.below hb⟩
theorem Rd.alloc (h : Rd w0 b l wn W) (o : Obj) : Rd w0 b l wn (W.alloc o) := h.below (below_a (Below.refl _ _) _)
theorem Rd.drew (h : Rd w0 b l wn W) : Rd w0 b l wn W.drew := ⟨h.hb, h.hw.drew, h.bx.drew⟩
theorem Rd.setS (h : Rd w0 b l wn W) (l' : List UInt8) : Rd w0 b l' wn (W.setCell ⟨b, 0, none⟩ (.string ⟨l'.toArray⟩)) := ⟨h.hb, h.hw.setCell (p := ⟨b, 0, none⟩) h.hb _, h.bx.set 0 _⟩
theorem Rd.setN (h : Rd w0 b l wn W) (n : Nat) : Rd w0 b l n (W.setCell ⟨b, 1, none⟩ (.int .i64 (n : Int))) := ⟨h.hb, h.hw.setCell (p := ⟨b, 1, none⟩) h.hb _, h.bx.set 1 _⟩
theorem Rd.c0 (h : Rd w0 b l wn W) : W.cell? ⟨b, 0, none⟩ = some (.string ⟨l.toArray⟩) := h.bx.c 0 rfl
theorem Rd.c1 (h : Rd w0 b l wn W) : W.cell? ⟨b, 1, none⟩ = some (.int .i64 (wn : Int)) := h.bx.c 1 rfl
theorem Rd.f (h : Rd w0 b l wn W) (i : Nat) : W.frozen? ⟨b, i, none⟩ = false := h.bx.f i
theorem Rd.kept (h : Rd w0 b l wn W) (hg : W.grownBy W' none) : Rd w0 b l wn W' := h.below ⟨hg.os, hg.tape, hg.output, hg.size, fun k hk => hg.block k hk (by simp)⟩
/-- Other blocks than the reader's have turned. -/
theorem Rd.other (h : Rd w0 b l wn W) {c : Nat} (hg : W.grownBy W' (some c)) (hc : w0.heap.size ≤ c) (hne : c ≠ b) : Rd w0 b l wn W' :=
  ⟨h.hb, h.hw.grown hg h.base (fun k e => by cases e; exact hc), (hg.block b h.lt (fun e => hne (Option.some.inj e).symm)).trans h.bx⟩
theorem Rd.tc (h : Rd w0 b l wn W) (hT : Tc w0) : Tc W := hT.below h.hw
end
theorem gr_below {W W' : World} {r : Option Nat} (h : Below W.heap.size W W') : W.grownBy W' r := ⟨h.os, h.tape, h.output, h.size, fun k hk _ => h.block k hk⟩
theorem gr_trans {A B C : World} {r : Option Nat} (h : A.grownBy B r) (k : B.grownBy C r) : A.grownBy C r :=
  ⟨k.os.trans h.os, k.tape.trans h.tape, k.output.trans h.output, Nat.le_trans h.size k.size, fun i hi hr => (k.block i (Nat.lt_of_lt_of_le hi h.size) hr).trans (h.block i hi hr)⟩
theorem gr_set (W : World) (b i : Nat) (v : Value) : W.grownBy (W.setCell ⟨b, i, none⟩ v) (some b) :=
  ⟨rfl, rfl, rfl, by rw [World.size_setCell]; exact Nat.le_refl _, fun k _ hk => Below.heap_setCell _ _ _ _ (fun e => hk (by rw [e]))⟩
theorem gr_alloc (W : World) (o : Obj) (r : Option Nat) : W.grownBy (W.alloc o) r := World.grownBy_alloc W o r
/-- A block that was laid since turns. -/
theorem gr_new {A B C : World} {r : Option Nat} {c : Nat} (h : A.grownBy B r) (k : B.grownBy C (some c)) (hc : A.heap.size ≤ c) : A.grownBy C r :=
  ⟨k.os.trans h.os, k.tape.trans h.tape, k.output.trans h.output, Nat.le_trans h.size k.size, fun i hi hr => (k.block i (Nat.lt_of_lt_of_le hi h.size) (fun e => by cases e; omega)).trans (h.block i hi hr)⟩
theorem gr_bx {W W' : World} {r : Option Nat} {k : Nat} {cs : Array Value} {T : TypeId} (h : Bx W k cs T) (hg : W.grownBy W' r) (hne : some k ≠ r) : Bx W' k cs T := (hg.block k h.lt hne).trans h
theorem sizeHd : (Tryz.prog.info? 119).map (·.size) = some 3 := by kernel_rfl
theorem ldHd {w : World} {g : Nat} {t : TypeId} {a0 a1 a2 : Value} (h : Bx w g #[a0, a1, a2] t) : (loadVar 119 ⟨g, 0, none⟩).run Tryz.prog w = .ok (.agg #[a0, a1, a2]) w :=
  run_loadVar_row w g t 119 #[a0, a1, a2] (0, 0) _ h Tryz.underlying119 rfl sizeHd
theorem ldNd {w : World} {g : Nat} {h : Hd} {v : Value} (hx : Nx w g h v) : (loadVar 28 ⟨g, 0, none⟩).run Tryz.prog w = .ok (.agg (h.cells v)) w :=
  run_loadVar_row w g 28 28 (h.cells v) (0, 0) _ hx Tryz.underlying28 rfl sizeN
theorem ldEr {w : World} {k : Nat} {e : Value} (hk : w.cell? ⟨k, 0, none⟩ = some e) : (loadVar 57 ⟨k, 0, none⟩).run Tryz.prog w = .ok e w := by
  simp [loadVar, isAgg, underlying, Tryz.underlying57, hk, Result.andThen]
theorem res_ct {fn : Func} {p q : Tmp} {ty : TypeId} (h : fn.results = #[.cell p ty, .tmp q]) (tmps : Array Value) (w : World) (g : Nat) (cs : Array Value) (e : Value)
    (hp : tmps.getD p undef = .pointer (some ⟨g, 0, none⟩)) (hq : tmps.getD q undef = e) (hg : (loadVar ty ⟨g, 0, none⟩).run Tryz.prog w = .ok (.agg cs) w) :
    (results fn tmps).run Tryz.prog w = .ok (.tuple #[.agg cs, e]) w := by
  have hp' : tmps[p]?.getD undef = .pointer (some ⟨g, 0, none⟩) := by simpa using hp
  have hq' : tmps[q]?.getD undef = e := by simpa using hq
  simp [results, h, hp', hq', asAddr, hg, Result.andThen]
theorem res_ctt {fn : Func} {p q r : Tmp} {ty : TypeId} (h : fn.results = #[.cell p ty, .tmp q, .tmp r]) (tmps : Array Value) (w : World) (g : Nat) (cs : Array Value) (e f : Value)
    (hp : tmps.getD p undef = .pointer (some ⟨g, 0, none⟩)) (hq : tmps.getD q undef = e) (hr : tmps.getD r undef = f) (hg : (loadVar ty ⟨g, 0, none⟩).run Tryz.prog w = .ok (.agg cs) w) :
    (results fn tmps).run Tryz.prog w = .ok (.tuple #[.agg cs, e, f]) w := by
  have hp' : tmps[p]?.getD undef = .pointer (some ⟨g, 0, none⟩) := by simpa using hp
  have hq' : tmps[q]?.getD undef = e := by simpa using hq
  have hr' : tmps[r]?.getD undef = f := by simpa using hr
  simp [results, h, hp', hq', hr', asAddr, hg, Result.andThen]
theorem res_cc {fn : Func} {p q : Tmp} {ty : TypeId} (h : fn.results = #[.cell p ty, .cell q 57]) (tmps : Array Value) (w : World) (g k : Nat) (cs : Array Value) (e : Value)
    (hp : tmps.getD p undef = .pointer (some ⟨g, 0, none⟩)) (hq : tmps.getD q undef = .pointer (some ⟨k, 0, none⟩)) (hg : (loadVar ty ⟨g, 0, none⟩).run Tryz.prog w = .ok (.agg cs) w) (hk : w.cell? ⟨k, 0, none⟩ = some e) :
    (results fn tmps).run Tryz.prog w = .ok (.tuple #[.agg cs, e]) w := by
  have hp' : tmps[p]?.getD undef = .pointer (some ⟨g, 0, none⟩) := by simpa using hp
  have hq' : tmps[q]?.getD undef = .pointer (some ⟨k, 0, none⟩) := by simpa using hq
  simp [results, h, hp', hq', asAddr, hg, Result.andThen, ldEr hk]
theorem arr_l (l : List UInt8) : (⟨l.toArray⟩ : ByteArray).data.toList = l := by simp
theorem isOpen_calls (j k a : Int) (w : World) : Calls Tryz.prog 105 #[.agg #[.int .i64 j, .int .i64 k, .int .u64 a]] w fun o w' => o = .returned (.bool (decide (k = 31))) ∧ Below w.heap.size w w' := by
  go_enter Tryz.func105, Tryz.ntmps105
  go_wp2
  go_ret
  exact ⟨by simp [BEq.beq], below_a (Below.refl _ _) _⟩
end Go.Proofs.YtppapkpceejnkaaGreatDoor
namespace Go.Proofs.YtppapkpceejnkaaGreatDoor
open Go.RowKit

theorem str_l {s : ByteArray} {l : List UInt8} (h : s.data.toList = l) : s = ⟨l.toArray⟩ := str_inj (by rw [h, arr_l])
theorem size_l (l : List UInt8) : (⟨l.toArray⟩ : ByteArray).size = l.length := by rw [← size_data, arr_l]
/-- What is wrong, as an error. -/
def errV (e : Int) : Value := if e = 0 then .nilIface else fltV e
set_option maxRecDepth 100000 in
theorem firstOf1_calls (e : Int) (B : Nat) (W : World) (h : Bx W B #[.int .i64 e] 29) : Calls Tryz.prog 46 #[.slice (some ⟨B, 0, none⟩) 1 1] W fun o W' => o = .returned (errV e) ∧ Below W.heap.size W W' := by
  have c0 := h.c 0 rfl
  have hB := h.lt
  by_cases he : e = 0
  · subst he
    go_enter Tryz.func46, Tryz.ntmps46
    go_wp2
    refine wp_loop_rounds 2 ?_
    rw [rounds_succ]
    go_wp2
    rw [rounds_succ]
    go_wp2
    go_ret
    exact ⟨rfl, Below.refl _ _⟩
  · have hne : (e != 0) = true := by simpa using he
    go_enter Tryz.func46, Tryz.ntmps46
    go_wp2
    refine wp_loop_rounds 2 ?_
    rw [rounds_succ]
    go_wp2
    go_ret
    exact ⟨by rw [errV, if_neg he]; rfl, Below.refl _ _⟩
set_option maxRecDepth 100000 in
theorem firstOf2_calls (e f : Int) (B : Nat) (W : World) (h : Bx W B #[.int .i64 e, .int .i64 f] 29) : Calls Tryz.prog 46 #[.slice (some ⟨B, 0, none⟩) 2 2] W fun o W' => o = .returned (errV (if e = 0 then f else e)) ∧ Below W.heap.size W W' := by
  have c0 := h.c 0 rfl
  have c1 := h.c 1 rfl
  have hB := h.lt
  by_cases he : e = 0
  · subst he
    by_cases hf : f = 0
    · subst hf
      go_enter Tryz.func46, Tryz.ntmps46
      go_wp2
      refine wp_loop_rounds 3 ?_
      rw [rounds_succ]
      go_wp2
      rw [rounds_succ]
      go_wp2
      rw [rounds_succ]
      go_wp2
      go_ret
      exact ⟨rfl, Below.refl _ _⟩
    · have hne : (f != 0) = true := by simpa using hf
      go_enter Tryz.func46, Tryz.ntmps46
      go_wp2
      refine wp_loop_rounds 3 ?_
      rw [rounds_succ]
      go_wp2
      rw [rounds_succ]
      go_wp2
      go_ret
      exact ⟨by simp only []; rw [errV, if_neg hf]; rfl, Below.refl _ _⟩
  · have hne : (e != 0) = true := by simpa using he
    go_enter Tryz.func46, Tryz.ntmps46
    go_wp2
    refine wp_loop_rounds 3 ?_
    rw [rounds_succ]
    go_wp2
    go_ret
    exact ⟨by rw [errV, if_neg he]; rfl, Below.refl _ _⟩
section
variable {w0 W : World} {b wn : Nat} {l : List UInt8}
abbrev hdV (j k a : Int) : Value := .agg #[.int .i64 j, .int .i64 k, .int .u64 a]
/-- What heading tells. -/
def HdP (w0 : World) (b wn : Nat) (W : World) (l : List UInt8) (o : Ending) (W' : World) : Prop := W.grownBy W' (some b) ∧ match rdL l with
  | .ok (j, k, a, r) => o = .returned (.tuple #[hdV (j : Int) (k : Int) (a : Int), .nilIface]) ∧ Rd w0 b r wn W'
  | .error e => o = .returned (.tuple #[hdV 0 0 0, fltV (hE e : Int)]) ∧ Rd w0 b l wn W'
theorem Bx.set3 {W : World} {B : Nat} {T : TypeId} {a0 a1 a2 : Value} (h0 : Bx W B #[a0, a1, a2] T) (b0 b1 b2 : Value) : Bx (((W.setCell ⟨B, 0, none⟩ b0).setCell ⟨B, 1, none⟩ b1).setCell ⟨B, 2, none⟩ b2) B #[b0, b1, b2] T := by
  have h1 : Bx (W.setCell ⟨B, 0, none⟩ b0) B #[b0, a1, a2] T := heap_setCell_same W B 0 _ _ b0 h0
  have h2 : Bx ((W.setCell ⟨B, 0, none⟩ b0).setCell ⟨B, 1, none⟩ b1) B #[b0, b1, a2] T := heap_setCell_same (W.setCell ⟨B, 0, none⟩ b0) B 1 _ _ b1 h1
  exact heap_setCell_same ((W.setCell ⟨B, 0, none⟩ b0).setCell ⟨B, 1, none⟩ b1) B 2 _ _ b2 h2
theorem gr_set3 (W : World) (B : Nat) (b0 b1 b2 : Value) : W.grownBy (((W.setCell ⟨B, 0, none⟩ b0).setCell ⟨B, 1, none⟩ b1).setCell ⟨B, 2, none⟩ b2) (some B) := gr_trans (gr_trans (gr_set _ _ _ _) (gr_set _ _ _ _)) (gr_set _ _ _ _)
set_option maxRecDepth 100000 in
set_option maxHeartbeats 1000000 in
theorem heading_err (e e' : Int) (h : Rd w0 b l wn W) (HR : Hid (∀ V, Below W.heap.size W V → Calls Tryz.prog 104 #[.string ⟨l.toArray⟩] V fun o w' => o = .returned (.tuple #[.int .i64 0, .int .i64 0, .int .u64 0, .string ⟨l.toArray⟩, .int .i64 e]) ∧ Below V.heap.size V w')) (he : (e = 100 ∧ e' = 100) ∨ (e = 101 ∧ e' = 110)) :
    Calls Tryz.prog 66 #[.pointer (some ⟨b, 0, none⟩)] W fun o W' => W.grownBy W' (some b) ∧ o = .returned (.tuple #[hdV 0 0 0, fltV e']) ∧ Rd w0 b l wn W' := by
  have hlt := h.lt
  have H := Lib.hid h
  have c0 := h.c0
  have HF := Lib.hid (fun B V (hx : Bx V B #[.int .i64 e'] 29) => firstOf1_calls e' B V hx)
  have HE : Hid (errV e' = fltV e') := Lib.hid (by rcases he with ⟨_, rfl⟩ | ⟨_, rfl⟩ <;> rfl)
  rw [HE.out] at HF
  have hr : Calls Tryz.prog 66 #[.pointer (some ⟨b, 0, none⟩)] W fun o W' => o = .returned (.tuple #[hdV 0 0 0, fltV e']) ∧ Below W.heap.size W W' := by
    clear h
    rcases he with ⟨rfl, rfl⟩ | ⟨rfl, rfl⟩
    all_goals
      go_enter Tryz.func66, Tryz.ntmps66
      go_wp2_with fail
      refine (HR.out _ (below_a (Below.refl _ _) _)).mono ?_
      rintro o w1 ⟨rfl, hb1⟩
      have HX := Lib.hid ((Bx.new W #[.int .i64 0, .int .i64 0, .int .u64 0] 119).below hb1)
      have HB := Lib.hid (below_nx (below_a (Below.refl W.heap.size W) _) hb1)
      clear hb1 c0
      go_wp2_with fail
      refine (HF.out _ _ (Bx.new _ _ _)).mono ?_
      rintro o w2 ⟨rfl, hb2⟩
      have HX2 := Lib.hid ((HX.out.alloc _).below hb2)
      have HB2 := Lib.hid (below_nx (below_a HB.out _) hb2)
      clear hb2
      have c0 := HX2.out.c 0 rfl
      have c1 := HX2.out.c 1 rfl
      have c2 := HX2.out.c 2 rfl
      have f0 := HX2.out.f 0
      have f1 := HX2.out.f 1
      have f2 := HX2.out.f 2
      have hl2 := HX2.out.lt
      go_wp2_with fail
      refine bodyPost_ret (res_ct Tryz.results66 _ _ W.heap.size _ _ rfl rfl (ldHd (Bx.set3 HX2.out _ _ _))) rfl ?_
      exact ⟨rfl, ((HB2.out.setCell (p := ⟨W.heap.size, 0, none⟩) (Nat.le_refl _) _).setCell (p := ⟨W.heap.size, 1, none⟩) (Nat.le_refl _) _).setCell (p := ⟨W.heap.size, 2, none⟩) (Nat.le_refl _) _⟩
  refine hr.mono ?_
  rintro o W' ⟨rfl, hb⟩
  exact ⟨gr_below hb, rfl, H.out.below hb⟩
end
end Go.Proofs.YtppapkpceejnkaaGreatDoor
namespace Go.Proofs.YtppapkpceejnkaaGreatDoor
open Go.RowKit

section
variable {w0 W : World} {b wn : Nat} {l : List UInt8}
set_option maxRecDepth 100000 in
set_option maxHeartbeats 1000000 in
theorem heading_ok (j k a : Int) (r : List UInt8) (h : Rd w0 b l wn W) (HR : Hid (∀ V, Below W.heap.size W V → Calls Tryz.prog 104 #[.string ⟨l.toArray⟩] V fun o w' => o = .returned (.tuple #[.int .i64 j, .int .i64 k, .int .u64 a, .string ⟨r.toArray⟩, .int .i64 0]) ∧ Below V.heap.size V w')) :
    Calls Tryz.prog 66 #[.pointer (some ⟨b, 0, none⟩)] W fun o W' => W.grownBy W' (some b) ∧ o = .returned (.tuple #[hdV j k a, .nilIface]) ∧ Rd w0 b r wn W' := by
  have hlt := h.lt
  have H := Lib.hid h
  have c0 := h.c0
  have HF := Lib.hid (fun B V (hx : Bx V B #[.int .i64 0] 29) => firstOf1_calls 0 B V hx)
  simp only [errV, if_true] at HF
  clear h
  go_enter Tryz.func66, Tryz.ntmps66
  go_wp2_with fail
  refine (HR.out _ (below_a (Below.refl _ _) _)).mono ?_
  rintro o w1 ⟨rfl, hb1⟩
  have HX := Lib.hid ((Bx.new W #[.int .i64 0, .int .i64 0, .int .u64 0] 119).below hb1)
  have HB := Lib.hid (below_nx (below_a (Below.refl W.heap.size W) _) hb1)
  clear hb1 c0
  go_wp2_with fail
  refine (HF.out _ _ (Bx.new _ _ _)).mono ?_
  rintro o w2 ⟨rfl, hb2⟩
  have HX2 := Lib.hid ((HX.out.alloc _).below hb2)
  have HB2 := Lib.hid (below_nx (below_a HB.out _) hb2)
  have H2 := Lib.hid (H.out.below HB2.out)
  clear hb2
  have c0 := HX2.out.c 0 rfl
  have c1 := HX2.out.c 1 rfl
  have c2 := HX2.out.c 2 rfl
  have f0 := HX2.out.f 0
  have f1 := HX2.out.f 1
  have f2 := HX2.out.f 2
  have hl2 := HX2.out.lt
  have hbW : b ≠ W.heap.size := by omega
  have d0 := H2.out.c0
  have g0 := H2.out.f 0
  go_wp2_with fail
  have HX3 := HX2.out.off (C := b) (i := 0) (v := .string ⟨r.toArray⟩) hbW.symm
  refine bodyPost_ret (res_ct Tryz.results66 _ _ W.heap.size _ _ rfl rfl (ldHd (Bx.set3 HX3 _ _ _))) rfl ?_
  have hg2 : W.grownBy w2 (some b) := gr_below HB2.out
  have hg3 := gr_trans hg2 (gr_set w2 b 0 (.string ⟨r.toArray⟩))
  refine ⟨gr_new hg3 (gr_set3 _ _ _ _ _) (Nat.le_refl _), rfl, ?_⟩
  exact (H2.out.setS r).other (gr_set3 _ _ _ _ _) H.out.base (by omega)
theorem heading_calls (hT : Tc w0) (h : Rd w0 b l wn W) : Calls Tryz.prog 66 #[.pointer (some ⟨b, 0, none⟩)] W (HdP w0 b wn W l) := by
  have hrd := readT_rdL ⟨l.toArray⟩
  rw [arr_l] at hrd
  have HR := Lib.hid (fun V (hb : Below W.heap.size W V) => Read_calls ⟨l.toArray⟩ V ((h.tc hT).2.1.below hb))
  unfold HdP
  cases hl : rdL l with
  | error e =>
    rw [hl] at hrd
    simp only at hrd
    rw [hrd] at HR
    rcases rdL_err hl with rfl | rfl
    · exact heading_err 100 100 h HR (.inl ⟨rfl, rfl⟩)
    · exact heading_err 101 110 h HR (.inr ⟨rfl, rfl⟩)
  | ok y =>
    obtain ⟨j, k, a, r⟩ := y
    rw [hl] at hrd
    obtain ⟨t, ht, he, _⟩ := hrd
    rw [he, str_l ht] at HR
    exact heading_ok j k a r h HR
set_option maxRecDepth 100000 in
set_option maxHeartbeats 1000000 in
theorem take_calls (a : Nat) (ha : a < 18446744073709551616) (hl : l.length < 1000000) (h : Rd w0 b l wn W) : Calls Tryz.prog 144 #[.pointer (some ⟨b, 0, none⟩), .int .u64 (a : Int)] W fun o W' => W.grownBy W' (some b) ∧
    if l.length < a then o = .returned (.tuple #[.string ⟨#[]⟩, fltV 100]) ∧ Rd w0 b l wn W' else o = .returned (.tuple #[.string ⟨(l.take a).toArray⟩, .nilIface]) ∧ Rd w0 b (l.drop a) wn W' := by
  have hlt := h.lt
  have H := Lib.hid h
  have c0 := h.c0
  have f0 := h.f 0
  have hz : (⟨l.toArray⟩ : ByteArray).size = l.length := size_l l
  by_cases hla : l.length < a
  · have hd : decide ((l.length : Int) < (a : Int)) = true := by simp; omega
    simp only [if_pos hla]
    clear h
    go_enter Tryz.func144, Tryz.ntmps144
    go_wp2
    go_ret2
    exact ⟨World.grownBy.refl _ _, rfl, H.out⟩
  · have hd : decide ((l.length : Int) < (a : Int)) = false := by simp; omega
    have hE1 : (⟨l.toArray⟩ : ByteArray).extract 0 a = ⟨(l.take a).toArray⟩ := str_l (by rw [ext_list, arr_l]; simp)
    have hE2 : (⟨l.toArray⟩ : ByteArray).extract a l.length = ⟨(l.drop a).toArray⟩ := str_l (by rw [ext_list, arr_l, show l.length - a = (l.drop a).length by rw [List.length_drop], List.take_length])
    simp only [if_neg hla]
    clear h
    go_enter Tryz.func144, Tryz.ntmps144
    go_wp2
    go_ret2
    exact ⟨gr_set _ _ _ _, rfl, H.out.setS _⟩
theorem ends_pre (l : List UInt8) : Lib.hasPrefix l (⟨#[255]⟩ : ByteArray).data.toList = endsL l ∧ Lib.trimPrefix l (⟨#[255]⟩ : ByteArray).data.toList = if endsL l = true then l.tail else l := by
  have h : Lib.hasPrefix l (⟨#[255]⟩ : ByteArray).data.toList = endsL l := by
    cases l with
    | nil => rfl
    | cons c r =>
      show (([255] : List UInt8).isPrefixOf (c :: r)) = (c == 255)
      simp only [List.isPrefixOf, Bool.and_true]
      rw [Bool.eq_iff_iff]
      simp only [beq_iff_eq]
      exact ⟨fun h => h.symm, fun h => h.symm⟩
  refine ⟨h, ?_⟩
  rw [Lib.trimPrefix, h]
  cases l with
  | nil => rfl
  | cons c r => rfl
set_option maxRecDepth 100000 in
theorem ends_calls (h : Rd w0 b l wn W) : Calls Tryz.prog 189 #[.pointer (some ⟨b, 0, none⟩)] W fun o W' => W.grownBy W' (some b) ∧ o = .returned (.bool (endsL l)) ∧ Rd w0 b (if endsL l = true then l.tail else l) wn W' := by
  have hlt := h.lt
  have H := Lib.hid h
  have c0 := h.c0
  have f0 := h.f 0
  have hc := Tryz.strings_CutPrefix ⟨l.toArray⟩ ⟨#[255]⟩
  rw [arr_l, (ends_pre l).1, (ends_pre l).2] at hc
  obtain ⟨X, hX⟩ : ∃ X, X = if endsL l = true then l.tail else l := ⟨_, rfl⟩
  rw [← hX] at hc ⊢
  have HC := Lib.hid hc
  clear h hc hX
  go_enter Tryz.func189, Tryz.ntmps189
  go_wp2_with fail
  refine (HC.out _).mono ?_
  rintro o w1 ⟨rfl, rfl⟩
  go_wp2_with fail
  go_ret
  exact ⟨gr_set _ _ _ _, rfl, H.out.setS _⟩
set_option maxRecDepth 100000 in
theorem nothing_calls (h : Rd w0 b l wn W) : Calls Tryz.prog 47 #[.pointer (some ⟨b, 0, none⟩)] W fun o W' => o = .returned (.int .i64 (if l = [] then 0 else 110)) ∧ W = W' := by
  have hlt := h.lt
  have c0 := h.c0
  clear h
  cases l with
  | nil =>
    go_enter Tryz.func47, Tryz.ntmps47
    go_wp2
    go_ret
    exact ⟨rfl, rfl⟩
  | cons c r =>
    have hne : ((⟨(c :: r).toArray⟩ : ByteArray).toList != []) = true := by rw [ByteArray.toList_eq, arr_l]; rfl
    go_enter Tryz.func47, Tryz.ntmps47
    go_wp2
    go_ret
    exact ⟨rfl, rfl⟩
/-- Are there items that begin with the head? -/
def begB (j k a : Nat) : Bool := if j = 7 then (if k = 24 ∧ a < 32 then false else k != 31) else if j = 0 ∨ j = 1 ∨ j = 6 then k != 31 else true
set_option maxRecDepth 100000 in
theorem begins_calls (j k a : Nat) (hj : j < 8) (W : World) : Calls Tryz.prog 67 #[hdV (j : Int) (k : Int) (a : Int)] W fun o W' => o = .returned (.bool (begB j k a)) ∧ Below W.heap.size W W' := by
  have HO := Lib.hid (fun V => isOpen_calls (j : Int) (k : Int) (a : Int) V)
  have hd : decide ((k : Int) = 31) = (k == 31) := by rw [Bool.eq_iff_iff]; simp; omega
  rw [hd] at HO
  have hx : (k != 31) = !(k == 31) := rfl
  obtain ⟨q, hq⟩ : ∃ q, q = (k == 31) := ⟨_, rfl⟩
  unfold begB
  rw [hx, ← hq]
  rw [← hq] at HO
  clear hd hx
  have hB := below_a (Below.refl W.heap.size W) (.cells #[.int .i64 (j : Int), .int .i64 (k : Int), .int .u64 (a : Int)] 119)
  by_cases h7 : j = 7
  · subst h7
    by_cases h24 : k = 24
    · subst h24
      by_cases ha : a < 32
      · have hd : decide ((a : Int) < 32) = true := by simp; omega
        simp only [ha, true_and, if_true]
        go_enter Tryz.func67, Tryz.ntmps67
        go_wp2_with fail
        go_ret
        exact ⟨rfl, hB⟩
      · have hd : decide ((a : Int) < 32) = false := by simp; omega
        have hq2 : q = false := by rw [hq]; rfl
        subst hq2
        simp only [ha, and_false, if_true, if_false]
        go_enter Tryz.func67, Tryz.ntmps67
        go_wp2_with fail
        refine (HO.out _).mono ?_
        rintro o w1 ⟨rfl, hb1⟩
        have HB1 := Lib.hid (below_nx hB hb1)
        clear hb1
        go_wp2_with fail
        go_ret
        exact ⟨rfl, HB1.out⟩
    · have hk : ((k : Int) == 24) = false := by simp; omega
      simp only [h24, false_and, if_true, if_false]
      go_enter Tryz.func67, Tryz.ntmps67
      go_wp2_with fail
      refine (HO.out _).mono ?_
      rintro o w1 ⟨rfl, hb1⟩
      have HB1 := Lib.hid (below_nx hB hb1)
      clear hb1
      go_wp2_with fail
      go_ret
      exact ⟨by rw [hq]; rfl, HB1.out⟩
  · rw [if_neg h7]
    by_cases h6 : j = 0 ∨ j = 1 ∨ j = 6
    · rw [if_pos h6]
      rcases h6 with rfl | rfl | rfl
      all_goals
        go_enter Tryz.func67, Tryz.ntmps67
        go_wp2_with fail
        refine (HO.out _).mono ?_
        rintro o w1 ⟨rfl, hb1⟩
        have HB1 := Lib.hid (below_nx hB hb1)
        clear hb1
        go_wp2_with fail
        go_ret
        exact ⟨by rw [hq]; rfl, HB1.out⟩
    · rw [if_neg h6]
      have h5 : j = 2 ∨ j = 3 ∨ j = 4 ∨ j = 5 := by omega
      rcases h5 with rfl | rfl | rfl | rfl
      all_goals
        go_enter Tryz.func67, Tryz.ntmps67
        go_wp2_with fail
        go_ret
        exact ⟨rfl, hB⟩
end
end Go.Proofs.YtppapkpceejnkaaGreatDoor
namespace Go.Proofs.YtppapkpceejnkaaGreatDoor
open Go.RowKit

/-- What a part tells, of what is read. -/
def AnsP (w0 : World) (b wn : Nat) (W : World) (R : Res (Hd × Fo)) (o : Ending) (W' : World) : Prop := W.grownBy W' (some b) ∧ match R with
  | .ok ((h, k), r) => ∃ v, o = .returned (.tuple #[.agg (h.cells v), .nilIface]) ∧ Rd w0 b r wn W' ∧ Kd (fun B => W.heap.size ≤ B) W' v k ∧ h.u < 18446744073709551616
  | .error e => o = .returned (.tuple #[.agg (zH.cells (.slice none 0 0)), fltV (e : Int)]) ∧ ∃ r, Rd w0 b r wn W'
theorem kd_nil {P : Nat → Prop} {W : World} : Kd P W (.slice none 0 0) .nil := .inl ⟨none, 0, rfl, rfl⟩
theorem gr_setN (W : World) (B : Nat) (h : Hd) (v : Value) : W.grownBy (setN W B h v) (some B) := by
  unfold setN
  exact gr_trans (gr_trans (gr_trans (gr_trans (gr_trans (gr_trans (gr_trans (gr_trans (gr_set _ _ _ _) (gr_set _ _ _ _)) (gr_set _ _ _ _)) (gr_set _ _ _ _)) (gr_set _ _ _ _)) (gr_set _ _ _ _)) (gr_set _ _ _ _)) (gr_set _ _ _ _)) (gr_set _ _ _ _)
section
variable {w0 W : World} {b wn : Nat} {l : List UInt8}
set_option maxRecDepth 100000 in
set_option maxHeartbeats 1000000 in
theorem number_plus (a k : Nat) (ha : a < 18446744073709551616) (hT : Tc w0) (h : Rd w0 b l wn W) :
    Calls Tryz.prog 59 #[.pointer (some ⟨b, 0, none⟩), hdV 0 (k : Int) (a : Int)] W (AnsP w0 b wn W (.ok ((numH false a, .nil), l))) := by
  have H := Lib.hid h
  have HO := Lib.hid (fun V (hb : Below W.heap.size W V) => pOfInt_calls false a V ha ((h.tc hT).1.2.below hb))
  obtain ⟨R, hR⟩ : ∃ R, R = makeR false (Lib.decDigits a) 0 := ⟨_, rfl⟩
  unfold ValP at HO
  rw [← hR] at HO
  unfold AnsP numH
  rw [← hR]
  clear h hT hR
  go_enter Tryz.func59, Tryz.ntmps59
  go_wp2_with fail
  refine (HO.out _ (below_a (below_a (Below.refl _ _) _) _)).mono ?_
  rintro o w1 ⟨rfl, hb1⟩
  have HX := Lib.hid (((Nx.new (W.alloc (.cells #[.int .i64 0, .int .i64 (k : Int), .int .u64 (a : Int)] 119)) zH (.slice none 0 0))).below hb1)
  have HY := Lib.hid (((Bx.new W #[.int .i64 0, .int .i64 (k : Int), .int .u64 (a : Int)] 119).alloc (.cells (zH.cells (.slice none 0 0)) 28)).below hb1)
  have HB := Lib.hid (below_nx (below_a (below_a (Below.refl W.heap.size W) _) _) hb1)
  rw [World.size_alloc] at HX
  clear hb1
  obtain ⟨q0, q1, q2, q3, q4, q5, q6, q7, q8⟩ := HX.out.nine
  have c0 := HY.out.c 0 rfl
  have c1 := HY.out.c 1 rfl
  have c2 := HY.out.c 2 rfl
  have hl0 := HY.out.lt
  have hl1 := HX.out.lt
  have x := fun i => Bx.f HX.out i
  have x0 := x 0
  have x1 := x 1
  have x2 := x 2
  have x3 := x 3
  have x4 := x 4
  have x5 := x 5
  have x6 := x 6
  have x7 := x 7
  have x8 := x 8
  clear x
  go_wp2_with fail
  obtain ⟨W3, hW3⟩ : ∃ W3, W3 = (setN w1 (W.heap.size + 1) ⟨3, false, dN R, dS R, dX R, 0, 0, ⟨#[]⟩⟩ (.slice none 0 0)).alloc (.cells #[.bool (dN R), .string (dS R), .int .i64 (dX R)] 24) := ⟨_, rfl⟩
  have hX : Nx W3 (W.heap.size + 1) ⟨3, false, dN R, dS R, dX R, 0, 0, ⟨#[]⟩⟩ (.slice none 0 0) := by rw [hW3]; exact (HX.out.setN _ _).alloc _
  have hg : W.grownBy W3 (some b) := by rw [hW3]; exact gr_trans (gr_new (gr_below HB.out) (gr_setN _ _ _ _) (by omega)) (gr_alloc _ _ _)
  have hr : Rd w0 b l wn W3 := by rw [hW3]; exact ((H.out.below HB.out).other (gr_setN _ _ _ _) (by have := H.out.base; omega) (by have := H.out.lt; omega)).alloc _
  simp only [setN, Int.cast_ofNat_Int] at hW3
  rw [← hW3]
  clear hW3
  refine bodyPost_ret (res_ct Tryz.results59 _ _ (W.heap.size + 1) _ _ rfl rfl (ldNd hX)) rfl ?_
  exact ⟨hg, _, rfl, hr, kd_nil, by decide⟩
end
end Go.Proofs.YtppapkpceejnkaaGreatDoor
