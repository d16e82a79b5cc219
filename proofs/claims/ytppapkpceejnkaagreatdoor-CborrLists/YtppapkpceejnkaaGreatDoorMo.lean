/- The program's own: whether a node of a kind is right, its list aside. The program's own: utf.Right. The program's own: isText, isFloat. -/
import Derived.Test.YtppapkpceejnkaaGreatDoorMa
import Derived.Test.YtppapkpceejnkaaGreatDoorMe
import Derived.Test.YtppapkpceejnkaaGreatDoorMi
import Derived.Lib.OthersKept
import Derived.Laws.RangeAny

namespace Go.Proofs.YtppapkpceejnkaaGreatDoor
open Go.RowKit

/-- The block of a node that is asked. -/
def Nq (W : World) (B : Nat) (h : Hd) (v : Value) : Prop := Bx W B (h.cells v) 109
theorem Nq.nine {W : World} {B : Nat} {h : Hd} {v : Value} (hc : Nq W B h v) :
    W.cell? ⟨B, 0, none⟩ = some (.int .i64 h.kind) ∧ W.cell? ⟨B, 1, none⟩ = some (.bool h.b) ∧ W.cell? ⟨B, 2, none⟩ = some (.bool h.neg) ∧ W.cell? ⟨B, 3, none⟩ = some (.string h.dig) ∧ W.cell? ⟨B, 4, none⟩ = some (.int .i64 h.exp) ∧ W.cell? ⟨B, 5, none⟩ = some (.int .u64 (h.u : Int)) ∧ W.cell? ⟨B, 6, none⟩ = some (.int .i64 h.w) ∧ W.cell? ⟨B, 7, none⟩ = some (.string h.s) ∧ W.cell? ⟨B, 8, none⟩ = some v :=
  ⟨Bx.c hc 0 rfl, Bx.c hc 1 rfl, Bx.c hc 2 rfl, Bx.c hc 3 rfl, Bx.c hc 4 rfl, Bx.c hc 5 rfl, Bx.c hc 6 rfl, Bx.c hc 7 rfl, Bx.c hc 8 rfl⟩
theorem Nq.new (W : World) (h : Hd) (v : Value) : Nq (W.alloc (.cells #[.int .i64 h.kind, .bool h.b, .bool h.neg, .string h.dig, .int .i64 h.exp, .int .u64 (h.u : Int), .int .i64 h.w, .string h.s, v] 109)) W.heap.size h v := heap_alloc_new W _
theorem Nq.below {W W' : World} {B : Nat} {h : Hd} {v : Value} (hc : Nq W B h v) (hb : Below W.heap.size W W') : Nq W' B h v := Bx.below hc hb
def simpleN (u : Nat) : Bool := decide (u < 20) || decide (u = 23) || (decide (31 < u) && decide (u ≤ 255))
set_option maxRecDepth 100000 in
theorem isSimpleNumber_calls (u : Nat) (w : World) : Calls Tryz.prog 132 #[.int .u64 (u : Int)] w (BolP (simpleN u) w) := by
  go_enter Tryz.func132, Tryz.ntmps132
  go_wp2
  all_goals go_ret
  all_goals refine ⟨?_, Below.refl _ _⟩
  all_goals (show Ending.returned (Value.bool _) = Ending.returned (Value.bool _); congr 2; rw [Bool.eq_iff_iff]; simp [simpleN]; try omega)
def j_isNull (h : Hd) (n : Nat) : Bool := sameH h ⟨h.kind, false, false, ⟨#[]⟩, 0, 0, 0, ⟨#[]⟩⟩ && ((n : Int) == (0 : Int))
def o_isNull (h : Hd) (n : Nat) : Bool := j_isNull h n
set_option maxRecDepth 100000 in
theorem isNull_calls (h : Hd) (A : Option Addr) (n c : Nat) (w : World) : Calls Tryz.prog 80 #[.agg (h.cells (.slice A n c))] w (BolP (o_isNull h n) w) := by
  obtain ⟨J, hJ⟩ : ∃ J, J = j_isNull h n := ⟨_, rfl⟩
  have HJ := Lib.hid hJ
  have HU : Hid (∀ W, Calls Tryz.prog 125 #[.agg (h.cells (.slice A n c)), .agg (Hd.cells ⟨h.kind, false, false, ⟨#[]⟩, 0, 0, 0, ⟨#[]⟩⟩ (.slice none 0 0))] W (BolP J W)) := Lib.hid (fun W => by rw [hJ]; exact isJust_calls h _ A none n 0 c 0 W)
  clear hJ
  simp only [Hd.cells] at HU ⊢
  go_enter Tryz.func80, Tryz.ntmps80
  go_wp2_with fail
  refine (HU.out _).mono ?_
  rintro o w1 ⟨rfl, hb1⟩
  have HX := Lib.hid ((Nq.new w h (.slice A n c)).below hb1)
  have HB := Lib.hid (below_nx (below_a (Below.refl _ _) _) hb1)
  clear hb1 HU
  go_wp2_with fail
  go_ret
  exact ⟨by rw [o_isNull, ← HJ.out]; rfl, HB.out⟩
def j_isBool (h : Hd) (n : Nat) : Bool := sameH h ⟨h.kind, h.b, false, ⟨#[]⟩, 0, 0, 0, ⟨#[]⟩⟩ && ((n : Int) == (0 : Int))
def o_isBool (h : Hd) (n : Nat) : Bool := j_isBool h n
set_option maxRecDepth 100000 in
theorem isBool_calls (h : Hd) (A : Option Addr) (n c : Nat) (w : World) : Calls Tryz.prog 81 #[.agg (h.cells (.slice A n c))] w (BolP (o_isBool h n) w) := by
  obtain ⟨J, hJ⟩ : ∃ J, J = j_isBool h n := ⟨_, rfl⟩
  have HJ := Lib.hid hJ
  have HU : Hid (∀ W, Calls Tryz.prog 125 #[.agg (h.cells (.slice A n c)), .agg (Hd.cells ⟨h.kind, h.b, false, ⟨#[]⟩, 0, 0, 0, ⟨#[]⟩⟩ (.slice none 0 0))] W (BolP J W)) := Lib.hid (fun W => by rw [hJ]; exact isJust_calls h _ A none n 0 c 0 W)
  clear hJ
  simp only [Hd.cells] at HU ⊢
  go_enter Tryz.func81, Tryz.ntmps81
  go_wp2_with fail
  refine (HU.out _).mono ?_
  rintro o w1 ⟨rfl, hb1⟩
  have HX := Lib.hid ((Nq.new w h (.slice A n c)).below hb1)
  have HB := Lib.hid (below_nx (below_a (Below.refl _ _) _) hb1)
  clear hb1 HU
  go_wp2_with fail
  go_ret
  exact ⟨by rw [o_isBool, ← HJ.out]; rfl, HB.out⟩
def j_isNum (h : Hd) (n : Nat) : Bool := sameH h ⟨h.kind, false, h.neg, h.dig, h.exp, 0, 0, ⟨#[]⟩⟩ && ((n : Int) == (0 : Int))
def o_isNum (h : Hd) (n : Nat) : Bool := j_isNum h n && rightD h.neg h.dig.data.toList h.exp
set_option maxRecDepth 100000 in
theorem isNum_calls (h : Hd) (A : Option Addr) (n c : Nat) (w : World) : Calls Tryz.prog 82 #[.agg (h.cells (.slice A n c))] w (BolP (o_isNum h n) w) := by
  obtain ⟨J, hJ⟩ : ∃ J, J = j_isNum h n := ⟨_, rfl⟩
  have HJ := Lib.hid hJ
  have HU : Hid (∀ W, Calls Tryz.prog 125 #[.agg (h.cells (.slice A n c)), .agg (Hd.cells ⟨h.kind, false, h.neg, h.dig, h.exp, 0, 0, ⟨#[]⟩⟩ (.slice none 0 0))] W (BolP J W)) := Lib.hid (fun W => by rw [hJ]; exact isJust_calls h _ A none n 0 c 0 W)
  clear hJ
  simp only [Hd.cells] at HU ⊢
  go_enter Tryz.func82, Tryz.ntmps82
  go_wp2_with fail
  refine (HU.out _).mono ?_
  rintro o w1 ⟨rfl, hb1⟩
  have HX := Lib.hid ((Nq.new w h (.slice A n c)).below hb1)
  have HB := Lib.hid (below_nx (below_a (Below.refl _ _) _) hb1)
  clear hb1 HU
  cases J with
  | false =>
    go_wp2_with fail
    go_ret
    exact ⟨by rw [o_isNum, ← HJ.out]; rfl, HB.out⟩
  | true =>
    obtain ⟨c0, c1, c2, c3, c4, c5, c6, c7, c8⟩ := HX.out.nine
    have HO : Hid (o_isNum h n = (rightD h.neg h.dig.data.toList h.exp)) := Lib.hid (by rw [o_isNum, ← HJ.out, Bool.true_and])
    clear HX HJ
    go_wp2_with fail
    refine (pRight_calls _ _ _ _).mono ?_
    rintro o w2 ⟨rfl, hb2⟩
    go_wp2_with fail
    go_ret
    exact ⟨by rw [HO.out]; rfl, below_nx HB.out hb2⟩
def j_isBytes (h : Hd) (n : Nat) : Bool := sameH h ⟨h.kind, false, false, ⟨#[]⟩, 0, 0, 0, h.s⟩ && ((n : Int) == (0 : Int))
def o_isBytes (h : Hd) (n : Nat) : Bool := j_isBytes h n && decide (h.s.size ≤ 400)
set_option maxRecDepth 100000 in
theorem isBytes_calls (h : Hd) (A : Option Addr) (n c : Nat) (w : World) : Calls Tryz.prog 85 #[.agg (h.cells (.slice A n c))] w (BolP (o_isBytes h n) w) := by
  obtain ⟨J, hJ⟩ : ∃ J, J = j_isBytes h n := ⟨_, rfl⟩
  have HJ := Lib.hid hJ
  have HU : Hid (∀ W, Calls Tryz.prog 125 #[.agg (h.cells (.slice A n c)), .agg (Hd.cells ⟨h.kind, false, false, ⟨#[]⟩, 0, 0, 0, h.s⟩ (.slice none 0 0))] W (BolP J W)) := Lib.hid (fun W => by rw [hJ]; exact isJust_calls h _ A none n 0 c 0 W)
  clear hJ
  simp only [Hd.cells] at HU ⊢
  go_enter Tryz.func85, Tryz.ntmps85
  go_wp2_with fail
  refine (HU.out _).mono ?_
  rintro o w1 ⟨rfl, hb1⟩
  have HX := Lib.hid ((Nq.new w h (.slice A n c)).below hb1)
  have HB := Lib.hid (below_nx (below_a (Below.refl _ _) _) hb1)
  clear hb1 HU
  cases J with
  | false =>
    go_wp2_with fail
    go_ret
    exact ⟨by rw [o_isBytes, ← HJ.out]; rfl, HB.out⟩
  | true =>
    obtain ⟨c0, c1, c2, c3, c4, c5, c6, c7, c8⟩ := HX.out.nine
    have HO : Hid (o_isBytes h n = (decide (h.s.size ≤ 400))) := Lib.hid (by rw [o_isBytes, ← HJ.out, Bool.true_and])
    clear HX HJ
    go_wp2
    all_goals go_ret
    all_goals refine ⟨?_, HB.out⟩
    all_goals rw [HO.out]
    all_goals (show Ending.returned (Value.bool _) = Ending.returned (Value.bool _); congr 2; rw [Bool.eq_iff_iff]; simp; try omega)
def j_isArray (h : Hd) (n : Nat) : Bool := sameH h ⟨h.kind, false, false, ⟨#[]⟩, 0, 0, 0, ⟨#[]⟩⟩ && ((n : Int) == (n : Int))
def o_isArray (h : Hd) (n : Nat) : Bool := j_isArray h n
set_option maxRecDepth 100000 in
theorem isArray_calls (h : Hd) (A : Option Addr) (n c : Nat) (w : World) : Calls Tryz.prog 86 #[.agg (h.cells (.slice A n c))] w (BolP (o_isArray h n) w) := by
  obtain ⟨J, hJ⟩ : ∃ J, J = j_isArray h n := ⟨_, rfl⟩
  have HJ := Lib.hid hJ
  have HU : Hid (∀ W, Calls Tryz.prog 125 #[.agg (h.cells (.slice A n c)), .agg (Hd.cells ⟨h.kind, false, false, ⟨#[]⟩, 0, 0, 0, ⟨#[]⟩⟩ (.slice A n c))] W (BolP J W)) := Lib.hid (fun W => by rw [hJ]; exact isJust_calls h _ A A n n c c W)
  clear hJ
  simp only [Hd.cells] at HU ⊢
  go_enter Tryz.func86, Tryz.ntmps86
  go_wp2_with fail
  refine (HU.out _).mono ?_
  rintro o w1 ⟨rfl, hb1⟩
  have HX := Lib.hid ((Nq.new w h (.slice A n c)).below hb1)
  have HB := Lib.hid (below_nx (below_a (Below.refl _ _) _) hb1)
  clear hb1 HU
  go_wp2_with fail
  go_ret
  exact ⟨by rw [o_isArray, ← HJ.out]; rfl, HB.out⟩
def j_isTag (h : Hd) (n : Nat) : Bool := sameH h ⟨h.kind, false, false, ⟨#[]⟩, 0, h.u, 0, ⟨#[]⟩⟩ && ((n : Int) == (n : Int))
def o_isTag (h : Hd) (n : Nat) : Bool := j_isTag h n && decide (n = 1)
set_option maxRecDepth 100000 in
theorem isTag_calls (h : Hd) (A : Option Addr) (n c : Nat) (w : World) : Calls Tryz.prog 88 #[.agg (h.cells (.slice A n c))] w (BolP (o_isTag h n) w) := by
  obtain ⟨J, hJ⟩ : ∃ J, J = j_isTag h n := ⟨_, rfl⟩
  have HJ := Lib.hid hJ
  have HU : Hid (∀ W, Calls Tryz.prog 125 #[.agg (h.cells (.slice A n c)), .agg (Hd.cells ⟨h.kind, false, false, ⟨#[]⟩, 0, h.u, 0, ⟨#[]⟩⟩ (.slice A n c))] W (BolP J W)) := Lib.hid (fun W => by rw [hJ]; exact isJust_calls h _ A A n n c c W)
  clear hJ
  simp only [Hd.cells] at HU ⊢
  go_enter Tryz.func88, Tryz.ntmps88
  go_wp2_with fail
  refine (HU.out _).mono ?_
  rintro o w1 ⟨rfl, hb1⟩
  have HX := Lib.hid ((Nq.new w h (.slice A n c)).below hb1)
  have HB := Lib.hid (below_nx (below_a (Below.refl _ _) _) hb1)
  clear hb1 HU
  cases J with
  | false =>
    go_wp2_with fail
    go_ret
    exact ⟨by rw [o_isTag, ← HJ.out]; rfl, HB.out⟩
  | true =>
    obtain ⟨c0, c1, c2, c3, c4, c5, c6, c7, c8⟩ := HX.out.nine
    have HO : Hid (o_isTag h n = (decide (n = 1))) := Lib.hid (by rw [o_isTag, ← HJ.out, Bool.true_and])
    clear HX HJ
    go_wp2
    all_goals go_ret
    all_goals refine ⟨?_, HB.out⟩
    all_goals rw [HO.out]
    all_goals (show Ending.returned (Value.bool _) = Ending.returned (Value.bool _); congr 2; rw [Bool.eq_iff_iff]; simp; try omega)
def j_isSimple (h : Hd) (n : Nat) : Bool := sameH h ⟨h.kind, false, false, ⟨#[]⟩, 0, h.u, 0, ⟨#[]⟩⟩ && ((n : Int) == (0 : Int))
def o_isSimple (h : Hd) (n : Nat) : Bool := j_isSimple h n && simpleN h.u
set_option maxRecDepth 100000 in
theorem isSimple_calls (h : Hd) (A : Option Addr) (n c : Nat) (w : World) : Calls Tryz.prog 89 #[.agg (h.cells (.slice A n c))] w (BolP (o_isSimple h n) w) := by
  obtain ⟨J, hJ⟩ : ∃ J, J = j_isSimple h n := ⟨_, rfl⟩
  have HJ := Lib.hid hJ
  have HU : Hid (∀ W, Calls Tryz.prog 125 #[.agg (h.cells (.slice A n c)), .agg (Hd.cells ⟨h.kind, false, false, ⟨#[]⟩, 0, h.u, 0, ⟨#[]⟩⟩ (.slice none 0 0))] W (BolP J W)) := Lib.hid (fun W => by rw [hJ]; exact isJust_calls h _ A none n 0 c 0 W)
  clear hJ
  simp only [Hd.cells] at HU ⊢
  go_enter Tryz.func89, Tryz.ntmps89
  go_wp2_with fail
  refine (HU.out _).mono ?_
  rintro o w1 ⟨rfl, hb1⟩
  have HX := Lib.hid ((Nq.new w h (.slice A n c)).below hb1)
  have HB := Lib.hid (below_nx (below_a (Below.refl _ _) _) hb1)
  clear hb1 HU
  cases J with
  | false =>
    go_wp2_with fail
    go_ret
    exact ⟨by rw [o_isSimple, ← HJ.out]; rfl, HB.out⟩
  | true =>
    obtain ⟨c0, c1, c2, c3, c4, c5, c6, c7, c8⟩ := HX.out.nine
    have HO : Hid (o_isSimple h n = (simpleN h.u)) := Lib.hid (by rw [o_isSimple, ← HJ.out, Bool.true_and])
    clear HX HJ
    go_wp2_with fail
    refine (isSimpleNumber_calls _ _).mono ?_
    rintro o w2 ⟨rfl, hb2⟩
    go_wp2_with fail
    go_ret
    exact ⟨by rw [HO.out]; rfl, below_nx HB.out hb2⟩
def j_isExt (h : Hd) (n : Nat) : Bool := sameH h ⟨h.kind, false, false, ⟨#[]⟩, 0, h.u, 0, h.s⟩ && ((n : Int) == (0 : Int))
def o_isExt (h : Hd) (n : Nat) : Bool := j_isExt h n && (decide (h.u ≤ 255) && decide (h.s.size ≤ 400))
set_option maxRecDepth 100000 in
theorem isExt_calls (h : Hd) (A : Option Addr) (n c : Nat) (w : World) : Calls Tryz.prog 90 #[.agg (h.cells (.slice A n c))] w (BolP (o_isExt h n) w) := by
  obtain ⟨J, hJ⟩ : ∃ J, J = j_isExt h n := ⟨_, rfl⟩
  have HJ := Lib.hid hJ
  have HU : Hid (∀ W, Calls Tryz.prog 125 #[.agg (h.cells (.slice A n c)), .agg (Hd.cells ⟨h.kind, false, false, ⟨#[]⟩, 0, h.u, 0, h.s⟩ (.slice none 0 0))] W (BolP J W)) := Lib.hid (fun W => by rw [hJ]; exact isJust_calls h _ A none n 0 c 0 W)
  clear hJ
  simp only [Hd.cells] at HU ⊢
  go_enter Tryz.func90, Tryz.ntmps90
  go_wp2_with fail
  refine (HU.out _).mono ?_
  rintro o w1 ⟨rfl, hb1⟩
  have HX := Lib.hid ((Nq.new w h (.slice A n c)).below hb1)
  have HB := Lib.hid (below_nx (below_a (Below.refl _ _) _) hb1)
  clear hb1 HU
  cases J with
  | false =>
    go_wp2_with fail
    go_ret
    exact ⟨by rw [o_isExt, ← HJ.out]; rfl, HB.out⟩
  | true =>
    obtain ⟨c0, c1, c2, c3, c4, c5, c6, c7, c8⟩ := HX.out.nine
    have HO : Hid (o_isExt h n = ((decide (h.u ≤ 255) && decide (h.s.size ≤ 400)))) := Lib.hid (by rw [o_isExt, ← HJ.out, Bool.true_and])
    clear HX HJ
    go_wp2
    all_goals go_ret
    all_goals refine ⟨?_, HB.out⟩
    all_goals rw [HO.out]
    all_goals (show Ending.returned (Value.bool _) = Ending.returned (Value.bool _); congr 2; rw [Bool.eq_iff_iff]; simp; try omega)
end Go.Proofs.YtppapkpceejnkaaGreatDoor

namespace Go.Proofs.YtppapkpceejnkaaGreatDoor
open Go.RowKit

def repB (t : ByteArray) : Bool := decide (3 ≤ t.size) && ((t.extract 0 3).toList == [239, 191, 189])
set_option maxRecDepth 100000 in
theorem isReplacement_calls (t : ByteArray) (w : World) : Calls Tryz.prog 168 #[.string t] w fun o w' => o = .returned (.bool (repB t)) ∧ w' = w := by
  by_cases h3 : 3 ≤ t.size
  · have h4 : (3 : Int) ≤ (t.size : Int) := by omega
    go_enter Tryz.func168, Tryz.ntmps168
    go_wp2
    all_goals go_ret
    all_goals refine ⟨?_, rfl⟩
    all_goals (rw [repB, decide_eq_true h3, Bool.true_and]; rfl)
  · have h4 : ¬ (3 : Int) ≤ (t.size : Int) := by omega
    go_enter Tryz.func168, Tryz.ntmps168
    go_wp2
    go_ret
    refine ⟨?_, rfl⟩
    rw [repB, decide_eq_false h3]
    rfl
theorem decode_pos (s : ByteArray) (pos : Nat) : 1 ≤ (Utf8.decode s pos).2 := by
  simp only [Utf8.decode]
  repeat' split
  all_goals simp
def badU (s : ByteArray) (pos : Nat) : Bool := decide ((Utf8.decode s pos).1 = 65533) && !repB (s.extract pos s.size)
def utfW (s : ByteArray) (pos : Nat) : Bool := if pos < s.size then (if badU s pos then false else utfW s (pos + (Utf8.decode s pos).2)) else true
termination_by s.size - pos
decreasing_by have := decode_pos s pos; omega
set_option maxRecDepth 100000 in
theorem utfRight_calls (s : ByteArray) (w : World) : Calls Tryz.prog 128 #[.string s] w (BolP (utfW s 0) w) := by
  go_enter Tryz.func128, Tryz.ntmps128
  go_wp2
  go_loopw [2] (fun _ wr => ∃ pos : Nat, utfW s 0 = utfW s pos ∧ wr.heap[w.heap.size]? = some (.stringIter s pos) ∧ Below w.heap.size w wr) (fun _ wr => s.size - wr.iterPos w.heap.size)
  case atStart => exact ⟨0, rfl, World.iter_heap w s 0, below_a (Below.refl _ _) _⟩
  case round =>
    obtain ⟨pos, hu, hit, hb⟩ := hrel
    have HU := Lib.hid hu
    have HI := Lib.hid hit
    have HB := Lib.hid hb
    clear hu hit hb
    by_cases hlt : pos < s.size
    · have hnx := fun ty => Lib.run_next_any_at (P := Tryz.prog) wr w.heap.size s pos ty HI.out hlt
      obtain ⟨c, wd, hcw⟩ : ∃ c wd, (c, wd) = Utf8.decode s pos := ⟨_, _, rfl⟩
      rw [← hcw] at hnx
      have hc1 := decode_pos s pos
      rw [← hcw] at hc1
      obtain ⟨W1, hW1⟩ : ∃ W1, W1 = wr.iterAt w.heap.size s (pos + wd) := ⟨_, rfl⟩
      simp only [← hW1] at hnx
      have HI1 : Hid (W1.heap[w.heap.size]? = some (.stringIter s (pos + wd))) := Lib.hid (by rw [hW1]; exact Lib.iterAt_heap wr _ s pos _ HI.out)
      have HB1 : Hid (Below w.heap.size w W1) := Lib.hid (by
        rw [hW1]
        exact ⟨HB.out.os, HB.out.tape, HB.out.output, by rw [Lib.iterAt_size]; exact HB.out.size, fun k hk => (Lib.iterAt_other wr _ _ s _ (by omega)).trans (HB.out.block k hk)⟩)
      have HC := Lib.hid hcw
      have hp1 : (pos : Int) ≤ (s.size : Int) := by omega
      obtain ⟨R, hR⟩ : ∃ R, R = repB (s.extract pos s.size) := ⟨_, rfl⟩
      have HR := Lib.hid hR
      have HRc : Hid (∀ w, Calls Tryz.prog 168 #[.string (s.extract pos s.size)] w fun o w' => o = .returned (.bool R) ∧ w' = w) := Lib.hid (fun w => by rw [hR]; exact isReplacement_calls _ w)
      clear hcw hW1 hR
      by_cases h5 : c = 65533
      · subst h5
        go_wp2_with fail
        refine (HRc.out _).mono ?_
        rintro o w2 ⟨rfl, rfl⟩
        cases R with
        | true =>
          have HBd : Hid (badU s pos = false) := Lib.hid (by rw [badU, ← HC.out, ← HR.out]; rfl)
          go_wp2_with fail
          go_roundw
          case rel => exact ⟨pos + wd, by rw [HU.out, utfW, if_pos hlt, HBd.out, ← HC.out]; rfl, HI1.out, HB1.out⟩
          case measure => rw [World.iterPos, World.iterPos, HI1.out, HI.out]; show s.size - (pos + wd) < s.size - pos; omega
        | false =>
          have HBd : Hid (badU s pos = true) := Lib.hid (by rw [badU, ← HC.out, ← HR.out]; rfl)
          go_wp2_with fail
          go_ret
          exact ⟨by rw [HU.out, utfW, if_pos hlt, HBd.out]; rfl, HB1.out⟩
      · have h6 : ¬ (c : Int) = 65533 := by omega
        have HBd : Hid (badU s pos = false) := Lib.hid (by rw [badU, ← HC.out, decide_eq_false h5]; rfl)
        go_wp2_with fail
        go_roundw
        case rel => exact ⟨pos + wd, by rw [HU.out, utfW, if_pos hlt, HBd.out, ← HC.out]; rfl, HI1.out, HB1.out⟩
        case measure => rw [World.iterPos, World.iterPos, HI1.out, HI.out]; show s.size - (pos + wd) < s.size - pos; omega
    · have hnx := fun ty => Lib.run_next_end_at (P := Tryz.prog) wr w.heap.size s pos ty HI.out hlt
      go_wp2
      go_ret
      exact ⟨by rw [HU.out, utfW, if_neg hlt]; rfl, HB.out⟩
end Go.Proofs.YtppapkpceejnkaaGreatDoor

namespace Go.Proofs.YtppapkpceejnkaaGreatDoor
open Go.RowKit

def o_isText (h : Hd) (n : Nat) : Bool := o_isBytes h n && utfW h.s 0
set_option maxRecDepth 100000 in
theorem isText_calls (h : Hd) (A : Option Addr) (n c : Nat) (w : World) : Calls Tryz.prog 84 #[.agg (h.cells (.slice A n c))] w (BolP (o_isText h n) w) := by
  obtain ⟨J, hJ⟩ : ∃ J, J = o_isBytes h n := ⟨_, rfl⟩
  have HJ := Lib.hid hJ
  have HU : Hid (∀ W, Calls Tryz.prog 85 #[.agg (h.cells (.slice A n c))] W (BolP J W)) := Lib.hid (fun W => by rw [hJ]; exact isBytes_calls h A n c W)
  clear hJ
  simp only [Hd.cells] at HU ⊢
  go_enter Tryz.func84, Tryz.ntmps84
  go_wp2_with fail
  refine (HU.out _).mono ?_
  rintro o w1 ⟨rfl, hb1⟩
  have HX := Lib.hid ((Nq.new w h (.slice A n c)).below hb1)
  have HB := Lib.hid (below_nx (below_a (Below.refl _ _) _) hb1)
  clear hb1 HU
  cases J with
  | false =>
    go_wp2_with fail
    go_ret
    exact ⟨by rw [o_isText, ← HJ.out]; rfl, HB.out⟩
  | true =>
    obtain ⟨c0, c1, c2, c3, c4, c5, c6, c7, c8⟩ := HX.out.nine
    clear HX
    go_wp2_with fail
    refine (utfRight_calls _ _).mono ?_
    rintro o w2 ⟨rfl, hb2⟩
    go_wp2_with fail
    go_ret
    exact ⟨by rw [o_isText, ← HJ.out]; rfl, below_nx HB.out hb2⟩
def j_isFloat (h : Hd) (n : Nat) : Bool := sameH h ⟨h.kind, false, false, ⟨#[]⟩, 0, h.u, h.w, ⟨#[]⟩⟩ && ((n : Int) == (0 : Int))
def o_isFloat (h : Hd) (n : Nat) : Bool := (widO h.u h.w).isSome && j_isFloat h n
set_option maxRecDepth 100000 in
theorem isFloat_calls (h : Hd) (A : Option Addr) (n c : Nat) (w : World) (hu : h.u < 18446744073709551616) (hT : Tw w) : Calls Tryz.prog 83 #[.agg (h.cells (.slice A n c))] w (BolP (o_isFloat h n) w) := by
  have HU : Hid (∀ W, Calls Tryz.prog 125 #[.agg (h.cells (.slice A n c)), .agg (Hd.cells ⟨h.kind, false, false, ⟨#[]⟩, 0, h.u, h.w, ⟨#[]⟩⟩ (.slice none 0 0))] W (BolP (j_isFloat h n) W)) := Lib.hid (fun W => isJust_calls h _ A none n 0 c 0 W)
  have HT := Lib.hid hT
  clear hT
  simp only [Hd.cells] at HU ⊢
  go_enter Tryz.func83, Tryz.ntmps83
  go_wp2_with fail
  refine (Widen_calls h.u h.w _ hu (HT.out.below (below_a (Below.refl _ _) _))).mono ?_
  rintro o w1 ⟨rfl, hb1⟩
  have HX := Lib.hid ((Nq.new w h (.slice A n c)).below hb1)
  have HB := Lib.hid (below_nx (below_a (Below.refl _ _) _) hb1)
  clear hb1
  cases hw : widO h.u h.w with
  | none =>
    have HW := Lib.hid hw
    clear hw
    simp only [wdV]
    go_wp2_with fail
    go_ret
    exact ⟨by rw [o_isFloat, HW.out]; rfl, HB.out⟩
  | some x =>
    have HW := Lib.hid hw
    clear hw
    obtain ⟨c0, c1, c2, c3, c4, c5, c6, c7, c8⟩ := HX.out.nine
    clear HX
    simp only [wdV]
    go_wp2_with fail
    refine (HU.out _).mono ?_
    rintro o w2 ⟨rfl, hb2⟩
    go_wp2_with fail
    go_ret
    exact ⟨by rw [o_isFloat, HW.out]; rfl, below_nx HB.out hb2⟩
end Go.Proofs.YtppapkpceejnkaaGreatDoor
