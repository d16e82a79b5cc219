/- Small words on strings, their bytes, and rows of bytes that a call owns (of b64's text Ba what head's texts want: the other names stand in tree's with another meaning). Plain mathematics: heads, their bytes, what a text begins with. Blocks known whole (the words of float's texts). The program's own: the listed table, the iterator of sizes. The program's own: hasRoom, whole, parts, firstOf. -/
import Derived.Test.YtppapkpceejnkaaGreatDoorMc
import Derived.Test.YtppapkpceejnkaaGreatDoorChecked
import Derived.WalkKit
import Derived.WalkMore
import Derived.Lib.Hide
import Derived.Lib.Strings
import Derived.Lib.OwnBridge
import Derived.Lib.SmallJoins
import Derived.Maps.AppendAt
import Derived.Deep.LoopGhost
import Derived.Deep.Cut
import Derived.Deep.CutRange
import Derived.Deep.DeepCutAuto
import Derived.StillTail
import Derived.StillTailTactics
import Derived.Test.YtppapkpceejnkaaGreatDoorMi
import Derived.Test.YtppapkpceejnkaaGreatDoorMd
import Derived.Deep.QuietTactic
import Derived.BigQuiet
import Derived.Lib.LaidTab
import Derived.LoopNIn
import Derived.RangeFuncKeeps
import Derived.RangeFuncWrites
import Derived.RangeFuncNested
import Derived.Laws.PanicsMore
import Derived.Below
import Derived.RangeFuncBound
import Derived.RangeFuncCalls
import Derived.RangeFuncLeaves
import Derived.RangeFuncBox
import Derived.Shelf.Abstract
import Derived.Shelf.RegionOpen
import Derived.OwnWalkIn
import Derived.Laws.BitsLemmas
namespace Go.Proofs.YtppapkpceejnkaaGreatDoor
open Go.RowKit

theorem size_data (s : ByteArray) : s.data.toList.length = s.size := by simp
def encB (b : UInt8) : Value := .int .u8 (b.toNat : Int)
theorem conv_own {base : Nat} {v : Value} {n : Nat} {zs : List UInt8} {w : World} (h : w.ownsRow base 5 1 v n (zs.map encB)) :
    (convert 45 9 v).run Tryz.prog w = .ok (.string ⟨zs.toArray⟩) w := by
  by_cases hv : v = .slice none 0 0
  · subst hv
    have h2 : zs = [] := by
      rcases h.2 with ⟨_, h2⟩ | ⟨_, _, _, e0, _⟩
      · have := h.1
        simp only [List.length_map, Nat.mul_one] at this
        exact List.eq_nil_of_length_eq_zero (by omega)
      · cases e0
    subst h2
    rw [run_convert_bytes_string w 45 9 5 none 0 0 Tryz.underlying45 Tryz.underlying5 Tryz.underlying9]
    rfl
  · obtain ⟨g, cap, rfl, hb, hlt, hnc, hcm, hl, hh⟩ := Lib.holds_of_ownsRow h hv
    subst hl
    refine run_convert_bytes_back w 45 9 5 _ cap zs Tryz.underlying45 Tryz.underlying5 Tryz.underlying9 (fun j hj => ?_)
    have := (hh j (by simpa using hj)).1
    rw [Addr.add_lit, this, encB, getElem!_pos _ j (by simpa using hj)]
    simp
theorem info5 : (Tryz.prog.info? 5).map (fun i => (i.zero, i.size, i.bytes)) = some (some (.int .u8 0), 1, 1) := by kernel_rfl
end Go.Proofs.YtppapkpceejnkaaGreatDoor
namespace Go.Proofs.YtppapkpceejnkaaGreatDoor
open Go.RowKit

/-- How many bytes an argument has behind the first one. -/
def hext (a : Nat) : Nat := if a < 24 then 0 else if a < 256 then 1 else if a < 65536 then 2 else if a < 4294967296 then 4 else 8
/-- The info of an argument's shortest head. -/
def hinfo (a : Nat) : Nat := if a < 24 then a else if a < 256 then 24 else if a < 65536 then 25 else if a < 4294967296 then 26 else 27
/-- The last n bytes of a number, the greatest one first. -/
def bigL : Nat → Nat → List UInt8
  | 0, _ => []
  | n + 1, a => UInt8.ofNat (a / 256 ^ n) :: bigL n a
/-- The number of bytes. -/
def valL (l : List UInt8) : Nat := l.foldl (fun a c => a * 256 + c.toNat) 0
/-- A head's bytes. -/
def headL (m a : Nat) : List UInt8 := UInt8.ofNat (32 * m + hinfo a) :: bigL (hext a) a
def headB (m a : Nat) : ByteArray := ⟨(headL m a).toArray⟩
/-- How many bytes an info asks for; none: it makes no head. -/
def nby (k : Nat) : Option Nat := if k < 24 then some 0 else if k = 24 then some 1 else if k = 25 then some 2 else if k = 26 then some 4 else if k = 27 then some 8 else if k = 31 then some 0 else none

theorem bigL_len (n a : Nat) : (bigL n a).length = n := by
  induction n with
  | zero => rfl
  | succ n ih => rw [bigL, List.length_cons, ih]
theorem hext_le (a : Nat) : hext a ≤ 8 := by unfold hext; repeat' split
                                             all_goals omega
theorem hinfo_le (a : Nat) : hinfo a ≤ 27 := by unfold hinfo; repeat' split
                                                all_goals omega
theorem headL_len (m a : Nat) : (headL m a).length = 1 + hext a := by rw [headL, List.length_cons, bigL_len]; omega
theorem headB_size (m a : Nat) : (headB m a).size = 1 + hext a := by rw [← headL_len m a]; rfl
theorem nby_info (a : Nat) : nby (hinfo a) = some (hext a) := by
  unfold nby hinfo hext
  repeat' split
  all_goals first | rfl | omega
theorem nby_le {k n : Nat} (h : nby k = some n) : n ≤ 8 := by
  unfold nby at h
  repeat' split at h
  all_goals first | omega | (injection h; omega) | cases h
theorem val_fold (l : List UInt8) (x : Nat) : l.foldl (fun a c => a * 256 + c.toNat) x = x * 256 ^ l.length + valL l := by
  induction l generalizing x with
  | nil => simp [valL]
  | cons c l ih =>
    have e : valL (c :: l) = c.toNat * 256 ^ l.length + valL l := by rw [valL, List.foldl_cons, ih, Nat.zero_mul, Nat.zero_add]
    rw [List.foldl_cons, ih, e, List.length_cons, Nat.pow_succ]
    have : (x * 256 + c.toNat) * 256 ^ l.length = x * (256 ^ l.length * 256) + c.toNat * 256 ^ l.length := by rw [Nat.add_mul, Nat.mul_assoc, Nat.mul_comm 256]
    rw [this]; omega
theorem val_cons (c : UInt8) (l : List UInt8) : valL (c :: l) = c.toNat * 256 ^ l.length + valL l := by
  rw [valL, List.foldl_cons, val_fold]; simp
theorem valQ_lt (l : List UInt8) : valL l < 256 ^ l.length := by
  induction l with
  | nil => simp [valL]
  | cons c l ih =>
    rw [val_cons, List.length_cons, Nat.pow_succ]
    have h1 := c.toNat_lt
    have h2 : (c.toNat + 1) * 256 ^ l.length ≤ 256 * 256 ^ l.length := Nat.mul_le_mul_right _ (by omega)
    rw [Nat.add_mul] at h2
    omega
theorem valQ_big (n a : Nat) : valL (bigL n a) = a % 256 ^ n := by
  induction n with
  | zero => simp [bigL, valL, Nat.mod_one]
  | succ n ih =>
    rw [bigL, val_cons, ih, bigL_len, UInt8.toNat_ofNat']
    have h : a % 256 ^ (n + 1) = a % 256 ^ n + 256 ^ n * (a / 256 ^ n % 256) := by rw [Nat.pow_succ, Nat.mod_mul]
    rw [h, Nat.mul_comm, Nat.add_comm]
theorem big_val (l : List UInt8) : bigL l.length (valL l) = l := by
  induction l with
  | nil => rfl
  | cons c l ih =>
    have key : ∀ n, n ≤ l.length → bigL n (valL (c :: l)) = bigL n (valL l) := by
      intro n
      induction n with
      | zero => intro _; rfl
      | succ n ihn =>
        intro h
        rw [bigL, bigL, ihn (by omega)]
        congr 1
        rw [val_cons]
        have : 256 ^ l.length = 256 ^ n * (256 * 256 ^ (l.length - n - 1)) := by
          rw [← Nat.mul_assoc, ← Nat.pow_succ, ← Nat.pow_add]; congr 1; omega
        rw [this, show c.toNat * (256 ^ n * (256 * 256 ^ (l.length - n - 1))) = 256 ^ n * (256 * (c.toNat * 256 ^ (l.length - n - 1))) by
          rw [Nat.mul_left_comm, Nat.mul_left_comm c.toNat], Nat.mul_add_div (Nat.pow_pos (by decide))]
        apply UInt8.toNat_inj.1
        rw [UInt8.toNat_ofNat', UInt8.toNat_ofNat']
        omega
    rw [List.length_cons, bigL, key _ (Nat.le_refl _), ih, val_cons]
    congr 1
    have h := valQ_lt l
    rw [Nat.mul_comm, Nat.mul_add_div (Nat.pow_pos (by decide)), Nat.div_eq_of_lt h, Nat.add_zero, UInt8.ofNat_toNat]
end Go.Proofs.YtppapkpceejnkaaGreatDoor
namespace Go.Proofs.YtppapkpceejnkaaGreatDoor
open Go.RowKit Go.Shelf

theorem At.set2 {W : World} {B : Nat} {a b : Value} {T : TypeId} (h : At W B #[a, b] T) (x y : Value) : At ((W.setCell ⟨B, 0, none⟩ x).setCell ⟨B, 1, none⟩ y) B #[x, y] T := by
  have h1 := heap_setCell_same W B 0 _ _ x h
  exact heap_setCell_same _ B 1 _ _ y h1
end Go.Proofs.YtppapkpceejnkaaGreatDoor
namespace Go.Proofs.YtppapkpceejnkaaGreatDoor
open Go.RowKit Go.Shelf

/-- The listed table of sizes. -/
def SizT (w : World) : Prop := Lib.TabIs Tryz.prog w "targum/head.sizes" .i64 [24, 1, 25, 2, 26, 4, 27, 8]
theorem gSiz : Tryz.prog.globalNamed "targum/head.sizes" = some 3 := by kernel_rfl
theorem SizT.below {A B : World} (h : SizT A) (hb : Below A.heap.size A B) : SizT B := by
  unfold SizT Lib.TabIs World.var? at *
  rw [gSiz] at *
  simp only [Option.bind_some] at *
  cases hA : A.heap[3]? with
  | none => rw [hA] at h; simp at h
  | some o =>
    have hlt : 3 < A.heap.size := (Array.getElem?_eq_some_iff.1 hA).1
    rw [hb.block _ hlt]; exact h
theorem SizT.cell {w : World} (h : SizT w) (i : Nat) (hi : i < 8) : w.cell? ⟨3, i, none⟩ = some (.int .i64 (([24, 1, 25, 2, 26, 4, 27, 8] : List Int).getD i 0)) :=
  Lib.TabIs.cell h gSiz i hi

attribute [local go_sem] Oper.semAt_some

/-- The four sizes, in their order. -/
def szI : Fin 4 → Int | 0 => 24 | 1 => 25 | 2 => 26 | 3 => 27
def szB : Fin 4 → Int | 0 => 1 | 1 => 2 | 2 => 4 | 3 => 8
def szV (x : Fin 4) : Value := .agg #[.int .i64 (szI x), .int .i64 (szB x)]
theorem hx0 (w : World) : (Instr.index 175 (.agg #[.int .i64 24, .int .i64 1, .int .i64 25, .int .i64 2, .int .i64 26, .int .i64 4, .int .i64 27, .int .i64 8]) (.int .i64 0)).run Tryz.prog w = .ok (.agg #[.int .i64 24, .int .i64 1]) w := by
  simp [Instr.index, run_underlying Tryz.underlying175, asIntOf, go_sem, part, Tryz.sizeOf78, Tryz.isAgg78]
theorem hx1 (w : World) : (Instr.index 175 (.agg #[.int .i64 24, .int .i64 1, .int .i64 25, .int .i64 2, .int .i64 26, .int .i64 4, .int .i64 27, .int .i64 8]) (.int .i64 1)).run Tryz.prog w = .ok (.agg #[.int .i64 25, .int .i64 2]) w := by
  simp [Instr.index, run_underlying Tryz.underlying175, asIntOf, go_sem, part, Tryz.sizeOf78, Tryz.isAgg78]
theorem hx2 (w : World) : (Instr.index 175 (.agg #[.int .i64 24, .int .i64 1, .int .i64 25, .int .i64 2, .int .i64 26, .int .i64 4, .int .i64 27, .int .i64 8]) (.int .i64 2)).run Tryz.prog w = .ok (.agg #[.int .i64 26, .int .i64 4]) w := by
  simp [Instr.index, run_underlying Tryz.underlying175, asIntOf, go_sem, part, Tryz.sizeOf78, Tryz.isAgg78]
theorem hx3 (w : World) : (Instr.index 175 (.agg #[.int .i64 24, .int .i64 1, .int .i64 25, .int .i64 2, .int .i64 26, .int .i64 4, .int .i64 27, .int .i64 8]) (.int .i64 3)).run Tryz.prog w = .ok (.agg #[.int .i64 27, .int .i64 8]) w := by
  simp [Instr.index, run_underlying Tryz.underlying175, asIntOf, go_sem, part, Tryz.sizeOf78, Tryz.isAgg78]

def preS (pre : List (Fin 4)) : Prop := pre = [0] ∨ pre = [0, 1] ∨ pre = [0, 1, 2] ∨ pre = [0, 1, 2, 3]
set_option maxRecDepth 100000 in
set_option maxHeartbeats 600000 in
theorem sizs1_in (n : Nat) (hn : 1 ≤ n) (l : Nat) (J Jx : List (Fin 4) → World → Prop)
    (hY : ∀ pre x W, J pre W → pre.length < 4 → YieldAt Fence.wide (n - 1) Tryz.prog l #[szV x] W fun e W' =>
      (e = .returned (.bool true) ∧ J (pre ++ [x]) W' ∧ KeepsWalks W W') ∨ (e = .returned (.bool false) ∧ Jx (pre ++ [x]) W'))
    (W : World) (hJ : AbidesFrom W.heap.size J) (hT : SizT W) (h0 : J [] W) :
    CallsIn Fence.wide n Tryz.prog 106 #[.func (.yield l) #[] #[]] W fun e W' => (∃ v, e = .returned v) ∧
      ((∃ ys, ys = [0, 1, 2, 3] ∧ J ys W') ∨ (∃ pre, preS pre ∧ Jx pre W')) := by
  have c0 : W.cell? ⟨3, 0, none⟩ = some (.int .i64 24) := hT.cell 0 (by decide)
  have c1 : W.cell? ⟨3, 1, none⟩ = some (.int .i64 1) := hT.cell 1 (by decide)
  have c2 : W.cell? ⟨3, 2, none⟩ = some (.int .i64 25) := hT.cell 2 (by decide)
  have c3 : W.cell? ⟨3, 3, none⟩ = some (.int .i64 2) := hT.cell 3 (by decide)
  have c4 : W.cell? ⟨3, 4, none⟩ = some (.int .i64 26) := hT.cell 4 (by decide)
  have c5 : W.cell? ⟨3, 5, none⟩ = some (.int .i64 4) := hT.cell 5 (by decide)
  have c6 : W.cell? ⟨3, 6, none⟩ = some (.int .i64 27) := hT.cell 6 (by decide)
  have c7 : W.cell? ⟨3, 7, none⟩ = some (.int .i64 8) := hT.cell 7 (by decide)
  have HY := Lib.hid hY
  have HJ := Lib.hid hJ
  have H0 := Lib.hid h0
  clear hY hJ hT h0
  refine callsIn_of_wp Tryz.func106 rfl trivial ?_ rfl
  simp only [Tryz.ntmps106, List.size_toArray, List.length_cons, List.length_nil, Nat.reduceAdd, Nat.reduceSub, Array.replicate_succ, Array.replicate_zero, List.push_toArray, List.append_toArray, List.nil_append, List.cons_append]
  gi_wp2
  refine wpIn_loop_rounds 5 ?_
  clear c0 c1 c2 c3 c4 c5 c6 c7
  rw [roundsIn_succ]
  have hix := hx0
  have hj0 := HJ.out [] W (W.alloc (.cells #[.int .i64 24, .int .i64 1] 78)) none H0.out (World.grownBy_alloc W _ none) (fun r e => by cases e)
  obtain ⟨fn0, tm0, as0, bo0, hy0, hR0⟩ := HY.out [] 0 _ hj0 (by decide)
  simp only [szV, szI, szB] at hy0 hR0
  have HR0 := Lib.hid hR0
  clear hR0 hj0
  gi_wp2
  refine HR0.out.mono ?_
  rintro e W1 (⟨rfl, hj, hk⟩ | ⟨rfl, hx⟩)
  rotate_left 1
  · have HX := Lib.hid hx
    clear hx
    gi_wp2
    refine bodyPost_ret (results_none rfl _ _ _) rfl ?_
    exact ⟨⟨_, rfl⟩, .inr ⟨_, .inl rfl, HX.out⟩⟩
  have J1 := Lib.hid hj
  clear hj hk hix hy0 HR0
  gi_wp2
  rw [roundsIn_succ]
  have hix := hx1
  have hj1 := HJ.out [0] W1 (W1.alloc (.cells #[.int .i64 25, .int .i64 2] 78)) none J1.out (World.grownBy_alloc W1 _ none) (fun r e => by cases e)
  obtain ⟨fn1, tm1, as1, bo1, hy1, hR1⟩ := HY.out [0] 1 _ hj1 (by decide)
  simp only [szV, szI, szB] at hy1 hR1
  have HR1 := Lib.hid hR1
  clear hR1 hj1
  gi_wp2
  refine HR1.out.mono ?_
  rintro e W2 (⟨rfl, hj, hk⟩ | ⟨rfl, hx⟩)
  rotate_left 1
  · have HX := Lib.hid hx
    clear hx
    gi_wp2
    refine bodyPost_ret (results_none rfl _ _ _) rfl ?_
    exact ⟨⟨_, rfl⟩, .inr ⟨_, .inr (.inl rfl), HX.out⟩⟩
  have J2 := Lib.hid hj
  clear hj hk hix hy1 HR1
  gi_wp2
  rw [roundsIn_succ]
  have hix := hx2
  have hj2 := HJ.out [0, 1] W2 (W2.alloc (.cells #[.int .i64 26, .int .i64 4] 78)) none J2.out (World.grownBy_alloc W2 _ none) (fun r e => by cases e)
  obtain ⟨fn2, tm2, as2, bo2, hy2, hR2⟩ := HY.out [0, 1] 2 _ hj2 (by decide)
  simp only [szV, szI, szB] at hy2 hR2
  have HR2 := Lib.hid hR2
  clear hR2 hj2
  gi_wp2
  refine HR2.out.mono ?_
  rintro e W3 (⟨rfl, hj, hk⟩ | ⟨rfl, hx⟩)
  rotate_left 1
  · have HX := Lib.hid hx
    clear hx
    gi_wp2
    refine bodyPost_ret (results_none rfl _ _ _) rfl ?_
    exact ⟨⟨_, rfl⟩, .inr ⟨_, .inr (.inr (.inl rfl)), HX.out⟩⟩
  have J3 := Lib.hid hj
  clear hj hk hix hy2 HR2
  gi_wp2
  rw [roundsIn_succ]
  have hix := hx3
  have hj3 := HJ.out [0, 1, 2] W3 (W3.alloc (.cells #[.int .i64 27, .int .i64 8] 78)) none J3.out (World.grownBy_alloc W3 _ none) (fun r e => by cases e)
  obtain ⟨fn3, tm3, as3, bo3, hy3, hR3⟩ := HY.out [0, 1, 2] 3 _ hj3 (by decide)
  simp only [szV, szI, szB] at hy3 hR3
  have HR3 := Lib.hid hR3
  clear hR3 hj3
  gi_wp2
  refine HR3.out.mono ?_
  rintro e W4 (⟨rfl, hj, hk⟩ | ⟨rfl, hx⟩)
  rotate_left 1
  · have HX := Lib.hid hx
    clear hx
    gi_wp2
    refine bodyPost_ret (results_none rfl _ _ _) rfl ?_
    exact ⟨⟨_, rfl⟩, .inr ⟨_, .inr (.inr (.inr rfl)), HX.out⟩⟩
  have J4 := Lib.hid hj
  clear hj hk hix hy3 HR3
  gi_wp2
  rw [roundsIn_succ]
  gi_wp2
  go_end0
  exact ⟨⟨_, rfl⟩, .inl ⟨_, rfl, J4.out⟩⟩

theorem sizs_stops (n : Nat) (hn : 1 ≤ n) (w : World) (hT : SizT w) :
    SeqStopsK Fence.wide n Tryz.prog 106 #[] (fun x : Fin 4 => #[szV x]) KeepsWalks (fun ys => ys = [0, 1, 2, 3]) preS 4 w := fun l J Jx W hW hJ _ hY h0 =>
  sizs1_in n hn l J Jx hY W hJ (hT.below hW) h0
set_option maxHeartbeats 400000 in
theorem sizs_calls (w : World) : Calls Tryz.prog 68 #[] w fun e w' => e = .returned (.func (.func 106) #[] #[]) ∧ w = w' := by
  go_enter Tryz.func68, Tryz.ntmps68
  go_wp2
  go_ret
  exact ⟨rfl, rfl⟩
theorem sizs_in (n : Nat) (w : World) : CallsIn Fence.wide n Tryz.prog 68 #[] w fun e w' => e = .returned (.func (.func 106) #[] #[]) ∧ w = w' := (callsIn_wide (n := n)).2 (sizs_calls w)
end Go.Proofs.YtppapkpceejnkaaGreatDoor
namespace Go.Proofs.YtppapkpceejnkaaGreatDoor
open Go.RowKit Go.Shelf

/-- Can the argument stand in a size's bytes? -/
def room (x : Fin 4) (a : Nat) : Bool := decide (a < 256 ^ (szB x).toNat)
theorem room_eq {x : Fin 4} {n a : Nat} (hn : 256 ^ (szB x).toNat = n) (hp : 0 < n) : (((a : Int) / (n : Int)) == 0) = room x a := by
  rw [room, hn, Bool.eq_iff_iff, beq_iff_eq, decide_eq_true_eq]
  have h : ((a : Int) / (n : Int)) = ((a / n : Nat) : Int) := rfl
  rw [h]
  constructor
  · intro h0
    have h1 : a / n = 0 := by omega
    rcases Nat.div_eq_zero_iff.1 h1 with h2 | h2
    · omega
    · exact h2
  · intro h0
    rw [Nat.div_eq_of_lt h0]; rfl
set_option maxRecDepth 100000 in
set_option maxHeartbeats 600000 in
theorem hasRoom_calls (x : Fin 4) (a : Nat) (w : World) : Calls Tryz.prog 69 #[.agg #[.int .i64 (szI x), .int .i64 (szB x)], .int .u64 (a : Int)] w fun o w' => o = .returned (.bool (room x a)) ∧ Below w.heap.size w w' := by
  match x with
  | 0 =>
    simp only [szI, szB]
    go_enter Tryz.func69, Tryz.ntmps69
    go_wp2
    go_ret
    exact ⟨congrArg (fun q => Ending.returned (.bool q)) (room_eq (x := 0) (n := 256) (by decide) (by decide)), below_al (Below.refl _ _) _⟩
  | 1 =>
    simp only [szI, szB]
    go_enter Tryz.func69, Tryz.ntmps69
    go_wp2
    go_ret
    exact ⟨congrArg (fun q => Ending.returned (.bool q)) (room_eq (x := 1) (n := 65536) (by decide) (by decide)), below_al (Below.refl _ _) _⟩
  | 2 =>
    simp only [szI, szB]
    go_enter Tryz.func69, Tryz.ntmps69
    go_wp2
    go_ret
    exact ⟨congrArg (fun q => Ending.returned (.bool q)) (room_eq (x := 2) (n := 4294967296) (by decide) (by decide)), below_al (Below.refl _ _) _⟩
  | 3 =>
    simp only [szI, szB]
    go_enter Tryz.func69, Tryz.ntmps69
    go_wp2
    go_ret
    exact ⟨congrArg (fun q => Ending.returned (.bool q)) (room_eq (x := 3) (n := 18446744073709551616) (by decide) (by decide)), below_al (Below.refl _ _) _⟩
set_option maxRecDepth 100000 in
theorem whole_calls (i b : Int) (w : World) (hb : 0 ≤ b ∧ b ≤ 8) : Calls Tryz.prog 150 #[.agg #[.int .i64 i, .int .i64 b]] w fun o w' => o = .returned (.int .i64 (1 + b)) ∧ Below w.heap.size w w' := by
  obtain ⟨h1, h2⟩ := hb
  go_enter Tryz.func150, Tryz.ntmps150
  go_wp2
  go_ret
  exact ⟨rfl, below_al (Below.refl _ _) _⟩
set_option maxRecDepth 100000 in
theorem parts_calls (c : Nat) (w : World) (hc : c < 256) : Calls Tryz.prog 148 #[.int .u8 (c : Int)] w fun o w' => o = .returned (.tuple #[.int .i64 ((c / 32 : Nat) : Int), .int .i64 ((c % 32 : Nat) : Int)]) ∧ w = w' := by
  go_enter Tryz.func148, Tryz.ntmps148
  go_wp2
  go_ret2
  exact ⟨rfl, rfl⟩
theorem or_i64 (m k : Nat) (hm : m < 8) (hk : k < 32) : bits .or .i64 ((m : Int) * 32) (k : Int) = (m : Int) * 32 + k :=
  bits_join .i64 31 (by decide) (fun n h0 h1 => by rw [IntKind.wrap_i64]; omega) 5 _ _ (by omega) (by omega) (by omega) (by omega) (by omega) (by omega)
set_option maxRecDepth 100000 in
theorem firstOf_calls (m k : Nat) (w : World) (hm : m < 8) (hk : k < 32) : Calls Tryz.prog 38 #[.int .i64 (m : Int), .int .i64 (k : Int)] w fun o w' => o = .returned (.int .u8 ((32 * m + k : Nat) : Int)) ∧ w = w' := by
  have h := or_i64 m k hm hk
  go_enter Tryz.func38, Tryz.ntmps38
  go_wp2
  go_ret
  refine ⟨congrArg (fun q => Ending.returned (.int .u8 q)) ?_, rfl⟩
  omega
end Go.Proofs.YtppapkpceejnkaaGreatDoor
