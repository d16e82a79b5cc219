/- Quotations: what they are; characters and their bytes. The program's own: letterOf. The program's own: Quote. -/
import Derived.Test.YtomociaidccfmaaGreatDoorMo
import Derived.Test.YtomociaidccfmaaGreatDoorMc
import Derived.Lib.RuneBytes
import Derived.Laws.EntriesVeiled
import Derived.MapKept
import Derived.Lib.FrozenHead2
import Derived.Lib.OwnBridge
import Derived.Deep.RegionLaw
import Derived.Test.YtomociaidccfmaaGreatDoorSh

namespace Go.Proofs.YtomociaidccfmaaGreatDoor
open Go.RowKit

def hexd (n : Nat) : UInt8 := UInt8.ofNat (if n < 10 then 48 + n else 87 + n)
/-- What stands for a byte in a plain quotation. -/
def escL (c : UInt8) : List UInt8 :=
  if c = 34 ∨ c = 92 then [92, c] else if c = 8 then [92, 98] else if c = 12 then [92, 102] else if c = 10 then [92, 110] else if c = 13 then [92, 114] else if c = 9 then [92, 116]
  else if c.toNat < 32 then [92, 117, 48, 48, hexd (c.toNat / 16), hexd (c.toNat % 16)] else [c]
def escAll (l : List UInt8) : List UInt8 := l.flatMap escL
/-- The plain quotation. -/
def quoteB (s : ByteArray) : ByteArray := ⟨(34 :: (escAll s.data.toList ++ [34])).toArray⟩
theorem escL_high {c : UInt8} (h : 128 ≤ c.toNat) : escL c = [c] := by
  have h1 : c ≠ 34 := fun e => by subst e; exact absurd h (by decide)
  have h2 : c ≠ 92 := fun e => by subst e; exact absurd h (by decide)
  have h3 : c ≠ 8 := fun e => by subst e; exact absurd h (by decide)
  have h4 : c ≠ 12 := fun e => by subst e; exact absurd h (by decide)
  have h5 : c ≠ 10 := fun e => by subst e; exact absurd h (by decide)
  have h6 : c ≠ 13 := fun e => by subst e; exact absurd h (by decide)
  have h7 : c ≠ 9 := fun e => by subst e; exact absurd h (by decide)
  simp only [escL]
  rw [if_neg (by intro x; exact x.elim h1 h2), if_neg h3, if_neg h4, if_neg h5, if_neg h6, if_neg h7, if_neg (by omega)]
theorem escL_len (c : UInt8) : (escL c).length ≤ 6 := by
  unfold escL
  repeat' split
  all_goals simp
theorem escAll_app (a b : List UInt8) : escAll (a ++ b) = escAll a ++ escAll b := by simp [escAll]
theorem escAll_len (l : List UInt8) : (escAll l).length ≤ 6 * l.length := by
  induction l with
  | nil => simp [escAll]
  | cons c r ih =>
    have := escL_len c
    simp only [escAll, List.flatMap_cons, List.length_append, List.length_cons] at *
    omega
theorem escAll_high {l : List UInt8} (h : ∀ c ∈ l, 128 ≤ c.toNat) : escAll l = l := by
  induction l with
  | nil => rfl
  | cons c r ih =>
    have h1 := ih (fun x hx => h x (List.mem_cons_of_mem _ hx))
    simp only [escAll, List.flatMap_cons] at *
    rw [escL_high (h c (List.mem_cons_self ..)), h1]
    rfl
theorem quoteB_size (s : ByteArray) : (quoteB s).size ≤ 6 * s.size + 2 := by
  have h1 := escAll_len s.data.toList
  have h4 : s.data.toList.length = s.size := Array.length_toList
  have h2 : (quoteB s).size = (34 :: (escAll s.data.toList ++ [34])).length := rfl
  rw [h4] at h1
  rw [h2, List.length_cons, List.length_append]
  show _ + 1 + 1 ≤ _
  omega
/-- The bytes of a text from a place on. -/
def bytesAt (s : ByteArray) (pos n : Nat) : List UInt8 := (List.range n).map fun k => s.get! (pos + k)
theorem get_list (s : ByteArray) (i : Nat) (h : i < s.size) : s.data.toList[i]? = some (s.get! i) := by
  have h1 : i < s.data.size := h
  show _ = some s.data[i]!
  rw [Array.getElem?_toList, Array.getElem?_eq_getElem h1]
  exact congrArg some (getElem!_pos s.data i h1).symm
theorem take_bytes (s : ByteArray) (pos : Nat) : ∀ n, pos + n ≤ s.size → s.data.toList.take (pos + n) = s.data.toList.take pos ++ bytesAt s pos n
  | 0, _ => by simp [bytesAt]
  | n + 1, h => by
    have h1 := take_bytes s pos n (by omega)
    rw [← Nat.add_assoc, List.take_add_one, h1, get_list s (pos + n) (by omega)]
    simp [bytesAt, List.range_succ]
theorem u_get (s : ByteArray) (p i : Nat) : (s.extract p s.size).get! i = s.get! (p + i) := by
  show (s.extract p s.size).data[i]! = s.data[p + i]!
  rw [ByteArray.data_extract, getElem!_def, getElem!_def, Array.getElem?_extract]
  by_cases h : i < s.data.size - p
  · rw [if_pos (by show i < min s.data.size s.data.size - p; omega)]
  · rw [if_neg (by show ¬ i < min s.data.size s.data.size - p; omega), Array.getElem?_eq_none (xs := s.data) (by omega)]
theorem u_size (s : ByteArray) (p : Nat) : (s.extract p s.size).size = s.size - p := by
  show (s.extract p s.size).data.size = _
  rw [ByteArray.data_extract, Array.size_extract]
  show min s.data.size s.data.size - p = s.data.size - p
  omega
theorem repB_is {T : ByteArray} (h : repB T = true) : 3 ≤ T.size ∧ (T.get! 0).toNat = 239 ∧ (T.get! 1).toNat = 191 ∧ (T.get! 2).toNat = 189 := by
  rw [repB, Bool.and_eq_true, decide_eq_true_eq, Lib.toList_data, Lib.extract_data, beq_iff_eq] at h
  obtain ⟨h1, h2⟩ := h
  rcases T with ⟨⟨l⟩⟩
  match l, h1, h2 with
  | x0 :: x1 :: x2 :: r, h1, h2 =>
    have h3 : [x0, x1, x2] = [239, 191, 189] := h2
    simp only [List.cons.injEq, and_true] at h3
    obtain ⟨rfl, rfl, rfl⟩ := h3
    exact ⟨h1, rfl, rfl, rfl⟩
theorem valid_nat {c : Nat} (h : Utf8.valid (c : Int) = true) : c < 55296 ∨ (57343 < c ∧ c ≤ 1114111) := by
  simp only [Utf8.valid, Bool.or_eq_true, Bool.and_eq_true, decide_eq_true_eq] at h
  omega
set_option maxHeartbeats 1000000 in
theorem dec_split (s : ByteArray) (pos : Nat) (h : pos < s.size) (hg : badU s pos = false) :
    ∃ c n, Utf8.decode s pos = (c, n) ∧ 1 ≤ n ∧ pos + n ≤ s.size ∧ c ≤ 1114111 ∧
      ((c < 128 ∧ n = 1 ∧ (s.get! pos).toNat = c) ∨ (128 ≤ c ∧ Lib.encodeRuneZ (c : Int) = (bytesAt s pos n).map (fun b => (b.toNat : Int)) ∧ ∀ b ∈ bytesAt s pos n, 128 ≤ b.toNat)) := by
  obtain ⟨b0, e0⟩ : ∃ b, b = (s.get! (pos + 0)).toNat := ⟨_, rfl⟩
  obtain ⟨b1, e1⟩ : ∃ b, b = (s.get! (pos + 1)).toNat := ⟨_, rfl⟩
  obtain ⟨b2, e2⟩ : ∃ b, b = (s.get! (pos + 2)).toNat := ⟨_, rfl⟩
  obtain ⟨b3, e3⟩ : ∃ b, b = (s.get! (pos + 3)).toNat := ⟨_, rfl⟩
  have l0 : b0 < 256 := by rw [e0]; exact UInt8.toNat_lt _
  have l1 : b1 < 256 := by rw [e1]; exact UInt8.toNat_lt _
  have l2 : b2 < 256 := by rw [e2]; exact UInt8.toNat_lt _
  have l3 : b3 < 256 := by rw [e3]; exact UInt8.toNat_lt _
  obtain ⟨D, hD⟩ : ∃ D, Utf8.decode s pos = D := ⟨_, rfl⟩
  have hd := hD
  unfold Utf8.decode at hd
  simp only [← e0, ← e1, ← e2, ← e3, Bool.and_eq_true, decide_eq_true_eq, beq_iff_eq, ge_iff_le] at hd
  have hb2 : bytesAt s pos 2 = [s.get! (pos + 0), s.get! (pos + 1)] := rfl
  have hb3 : bytesAt s pos 3 = [s.get! (pos + 0), s.get! (pos + 1), s.get! (pos + 2)] := rfl
  have hb4 : bytesAt s pos 4 = [s.get! (pos + 0), s.get! (pos + 1), s.get! (pos + 2), s.get! (pos + 3)] := rfl
  have hbad : (Utf8.runeError, 1) ≠ D := by
    intro e
    rw [← hD] at e
    rw [badU, ← e] at hg
    have hr : repB (s.extract pos s.size) = true := by
      cases hq : repB (s.extract pos s.size) with
      | true => rfl
      | false => rw [hq] at hg; exact absurd hg (by decide)
    obtain ⟨z, r0, r1, r2⟩ := repB_is hr
    rw [u_get] at r0 r1 r2
    rw [u_size] at z
    rw [← e0] at r0
    rw [← e1] at r1
    rw [← e2] at r2
    subst r0 r1 r2
    rw [if_neg (by decide), if_neg (by rintro ⟨h, _⟩; exact absurd h (by decide)), if_pos ⟨⟨by decide, by omega, by decide⟩, by omega, by decide⟩, if_pos (by decide)] at hd
    rw [← e] at hD
    rw [← hd] at hD
    exact absurd (congrArg Prod.snd hD) (by decide)
  by_cases q0 : b0 < 128
  · rw [if_pos q0] at hd
    exact ⟨b0, 1, hD.trans hd.symm, Nat.le_refl _, by omega, by omega, .inl ⟨q0, rfl, e0.symm⟩⟩
  rw [if_neg q0] at hd
  by_cases q1 : (b0 / 32 = 6 ∧ pos + 1 < s.size ∧ b1 / 64 = 2)
  · rw [if_pos q1] at hd
    by_cases q2 : 128 ≤ b0 % 32 * 64 + b1 % 64
    · rw [if_pos q2] at hd
      refine ⟨_, 2, hD.trans hd.symm, by omega, by omega, by omega, .inr ⟨q2, ?_, ?_⟩⟩
      · rw [Lib.encodeRuneZ_two (by omega) (by omega), hb2]
        simp only [List.map_cons, List.map_nil, ← e0, ← e1]
        congr 1
        · omega
        · congr 1
          omega
      · rw [hb2]
        intro x hx
        simp only [List.mem_cons, List.not_mem_nil, or_false] at hx
        rcases hx with rfl | rfl <;> omega
    · rw [if_neg q2] at hd
      exact absurd hd hbad
  rw [if_neg q1] at hd
  by_cases q3 : ((b0 / 16 = 14 ∧ pos + 1 < s.size ∧ b1 / 64 = 2) ∧ pos + 2 < s.size ∧ b2 / 64 = 2)
  · rw [if_pos q3] at hd
    by_cases q2 : 2048 ≤ b0 % 16 * 4096 + b1 % 64 * 64 + b2 % 64 ∧ Utf8.valid ((b0 % 16 * 4096 + b1 % 64 * 64 + b2 % 64 : Nat) : Int) = true
    · rw [if_pos q2] at hd
      have hv := valid_nat q2.2
      refine ⟨_, 3, hD.trans hd.symm, by omega, by omega, by omega, .inr ⟨by omega, ?_, ?_⟩⟩
      · rw [Lib.encodeRuneZ_three (by omega), hb3]
        simp only [List.map_cons, List.map_nil, ← e0, ← e1, ← e2]
        congr 1
        · omega
        · congr 1
          · omega
          · congr 1
            omega
      · rw [hb3]
        intro x hx
        simp only [List.mem_cons, List.not_mem_nil, or_false] at hx
        rcases hx with rfl | rfl | rfl <;> omega
    · rw [if_neg q2] at hd
      exact absurd hd hbad
  rw [if_neg q3] at hd
  by_cases q4 : (((b0 / 8 = 30 ∧ pos + 1 < s.size ∧ b1 / 64 = 2) ∧ pos + 2 < s.size ∧ b2 / 64 = 2) ∧ pos + 3 < s.size ∧ b3 / 64 = 2)
  · rw [if_pos q4] at hd
    by_cases q2 : 65536 ≤ b0 % 8 * 262144 + b1 % 64 * 4096 + b2 % 64 * 64 + b3 % 64 ∧ Utf8.valid ((b0 % 8 * 262144 + b1 % 64 * 4096 + b2 % 64 * 64 + b3 % 64 : Nat) : Int) = true
    · rw [if_pos q2] at hd
      have hv := valid_nat q2.2
      refine ⟨_, 4, hD.trans hd.symm, by omega, by omega, by omega, .inr ⟨by omega, ?_, ?_⟩⟩
      · rw [Lib.encodeRuneZ_four (by omega) (by omega), hb4]
        simp only [List.map_cons, List.map_nil, ← e0, ← e1, ← e2, ← e3]
        congr 1
        · omega
        · congr 1
          · omega
          · congr 1
            · omega
            · congr 1
              omega
      · rw [hb4]
        intro x hx
        simp only [List.mem_cons, List.not_mem_nil, or_false] at hx
        rcases hx with rfl | rfl | rfl | rfl <;> omega
    · rw [if_neg q2] at hd
      exact absurd hd hbad
  rw [if_neg q4] at hd
  exact absurd hd hbad
end Go.Proofs.YtomociaidccfmaaGreatDoor

namespace Go.Proofs.YtomociaidccfmaaGreatDoor
open Go.RowKit

def letE : List MapEntry := [⟨.int .i32 34, .int .u8 34, 0⟩, ⟨.int .i32 92, .int .u8 92, 1⟩, ⟨.int .i32 8, .int .u8 98, 2⟩, ⟨.int .i32 12, .int .u8 102, 3⟩, ⟨.int .i32 10, .int .u8 110, 4⟩, ⟨.int .i32 13, .int .u8 114, 5⟩, ⟨.int .i32 9, .int .u8 116, 6⟩]
def letN (i : Nat) : Array MapEntry := (letE.take i).toArray
theorem updL {w : World} {es : Array MapEntry} {clock : Nat} {a : Int} {v : Value} (h : Instr.findNow (.int .i32) (.int .i32 a) es.toList 0 = some none) :
    (Instr.mapUpdate 125 (.map (some w.heap.size)) (.int .i32 a) v).run Tryz.prog (w.alloc (.map es clock)) = .ok () (w.alloc (.map (es.push { key := .int .i32 a, val := v, born := clock }) (clock + 1))) := by
  have hk : MapKept.IsKey (.int .i32) (.int .i32 a) := rfl
  have hb : (w.alloc (.map es clock)).heap[w.heap.size]? = some (.map es clock) := heap_alloc_new w _
  simp [Instr.mapUpdate, run_underlying Tryz.underlying125, MapKept.run_getObj_map hb, MapKept.run_checkKey Tryz.underlying21 hk, MapKept.run_findKey Tryz.underlying21 h, MapKept.run_setObj_map _ hb, Result.andThen]
  have e : (w.alloc (.map es clock)).heap.setIfInBounds w.heap.size (.map (es.push { key := .int .i32 a, val := v, born := clock }) (clock + 1)) = (w.alloc (.map (es.push { key := .int .i32 a, val := v, born := clock }) (clock + 1))).heap := by
    show (w.heap.push _).setIfInBounds w.heap.size _ = w.heap.push _
    apply Array.toList_inj.1
    simp
  rw [e]
  rfl
set_option maxRecDepth 100000 in
theorem letterOf_calls (w : World) : Calls Tryz.prog 85 #[] w fun o w' => o = .returned (.map (some w.heap.size)) ∧ w' = w.alloc (.map (letN 7) 7) := by
  have hmm := @run_makeMap Tryz.prog
  have u0 : (Instr.mapUpdate 125 (.map (some w.heap.size)) (.int .i32 34) (.int .u8 34)).run Tryz.prog (w.alloc (.map #[] 0)) = .ok () (w.alloc (.map (letN 1) 1)) := updL (es := #[]) (clock := 0) (by rfl)
  have u1 : (Instr.mapUpdate 125 (.map (some w.heap.size)) (.int .i32 92) (.int .u8 92)).run Tryz.prog (w.alloc (.map (letN 1) 1)) = .ok () (w.alloc (.map (letN 2) 2)) := updL (es := letN 1) (clock := 1) (by rfl)
  have u2 : (Instr.mapUpdate 125 (.map (some w.heap.size)) (.int .i32 8) (.int .u8 98)).run Tryz.prog (w.alloc (.map (letN 2) 2)) = .ok () (w.alloc (.map (letN 3) 3)) := updL (es := letN 2) (clock := 2) (by rfl)
  have u3 : (Instr.mapUpdate 125 (.map (some w.heap.size)) (.int .i32 12) (.int .u8 102)).run Tryz.prog (w.alloc (.map (letN 3) 3)) = .ok () (w.alloc (.map (letN 4) 4)) := updL (es := letN 3) (clock := 3) (by rfl)
  have u4 : (Instr.mapUpdate 125 (.map (some w.heap.size)) (.int .i32 10) (.int .u8 110)).run Tryz.prog (w.alloc (.map (letN 4) 4)) = .ok () (w.alloc (.map (letN 5) 5)) := updL (es := letN 4) (clock := 4) (by rfl)
  have u5 : (Instr.mapUpdate 125 (.map (some w.heap.size)) (.int .i32 13) (.int .u8 114)).run Tryz.prog (w.alloc (.map (letN 5) 5)) = .ok () (w.alloc (.map (letN 6) 6)) := updL (es := letN 5) (clock := 5) (by rfl)
  have u6 : (Instr.mapUpdate 125 (.map (some w.heap.size)) (.int .i32 9) (.int .u8 116)).run Tryz.prog (w.alloc (.map (letN 6) 6)) = .ok () (w.alloc (.map (letN 7) 7)) := updL (es := letN 6) (clock := 6) (by rfl)
  go_enter Tryz.func85, Tryz.ntmps85
  go_wp2
  go_ret
  exact ⟨rfl, rfl⟩
/-- The letter that stands for a character, 0 where there is none. -/
def letV (c : Nat) : Nat := if c = 34 then 34 else if c = 92 then 92 else if c = 8 then 98 else if c = 12 then 102 else if c = 10 then 110 else if c = 13 then 114 else if c = 9 then 116 else 0
def letAt (c : Nat) : Nat := if c = 34 then 0 else if c = 92 then 1 else if c = 8 then 2 else if c = 12 then 3 else if c = 10 then 4 else if c = 13 then 5 else 6
def isLet (c : Nat) : Prop := c = 34 ∨ c = 92 ∨ c = 8 ∨ c = 12 ∨ c = 10 ∨ c = 13 ∨ c = 9
theorem findLet {c : Nat} (h : isLet c) : Instr.findNow (.int .i32) (.int .i32 (c : Int)) (letN 7).toList 0 = some (some (letAt c, .int .u8 (letV c : Int))) := by
  rcases h with rfl | rfl | rfl | rfl | rfl | rfl | rfl <;> rfl
theorem findNo {c : Nat} (h : ¬ isLet c) : Instr.findNow (.int .i32) (.int .i32 (c : Int)) (letN 7).toList 0 = some none := by
  simp only [isLet, not_or] at h
  have h1 : ∀ i : Nat, c ≠ i → ((c : Int) == (i : Int)) = false := fun i h => by simp; omega
  have e1 := h1 34 h.1
  have e2 := h1 92 h.2.1
  have e3 := h1 8 h.2.2.1
  have e4 := h1 12 h.2.2.2.1
  have e5 := h1 10 h.2.2.2.2.1
  have e6 := h1 13 h.2.2.2.2.2.1
  have e7 := h1 9 h.2.2.2.2.2.2
  simp only [Int.cast_ofNat_Int] at e1 e2 e3 e4 e5 e6 e7
  simp [letN, letE, Instr.findNow, Instr.sameNow, e1, e2, e3, e4, e5, e6, e7]
theorem run_letter {w : World} {B : Nat} {c : Nat} (hb : w.heap[B]? = some (.map (letN 7) 7)) (h : isLet c) :
    (Instr.lookup 125 (.map (some B)) (.int .i32 (c : Int)) true).run Tryz.prog w = .ok (.tuple #[.int .u8 (letV c : Int), .bool true]) w := by
  have hk : MapKept.IsKey (.int .i32) (.int .i32 (c : Int)) := rfl
  simp [Instr.lookup, run_underlying Tryz.underlying125, MapKept.run_getObj_map hb, MapKept.run_checkKey Tryz.underlying21 hk, MapKept.run_findKey Tryz.underlying21 (findLet h), Result.andThen]
theorem run_noLetter {w : World} {B : Nat} {c : Nat} (hb : w.heap[B]? = some (.map (letN 7) 7)) (h : ¬ isLet c) :
    (Instr.lookup 125 (.map (some B)) (.int .i32 (c : Int)) true).run Tryz.prog w = .ok (.tuple #[.int .u8 0, .bool false]) w := by
  have hk : MapKept.IsKey (.int .i32) (.int .i32 (c : Int)) := rfl
  simp [Instr.lookup, run_underlying Tryz.underlying125, MapKept.run_getObj_map hb, MapKept.run_checkKey Tryz.underlying21 hk, MapKept.run_findKey Tryz.underlying21 (findNo h), Result.andThen]
theorem escL_let {c : Nat} (h : isLet c) : escL (UInt8.ofNat c) = [92, UInt8.ofNat (letV c)] := by
  rcases h with rfl | rfl | rfl | rfl | rfl | rfl | rfl <;> rfl
theorem escL_low {c : Nat} (h : ¬ isLet c) (hc : c < 32) : escL (UInt8.ofNat c) = [92, 117, 48, 48, hexd (c / 16), hexd (c % 16)] := by
  have : ∀ c : Fin 32, ¬ (c.1 = 34 ∨ c.1 = 92 ∨ c.1 = 8 ∨ c.1 = 12 ∨ c.1 = 10 ∨ c.1 = 13 ∨ c.1 = 9) → escL (UInt8.ofNat c.1) = [92, 117, 48, 48, hexd (c.1 / 16), hexd (c.1 % 16)] := by decide
  exact this ⟨c, hc⟩ h
theorem escL_self {c : Nat} (h : ¬ isLet c) (hc : 32 ≤ c) (h2 : c < 128) : escL (UInt8.ofNat c) = [UInt8.ofNat c] := by
  have : ∀ c : Fin 128, 32 ≤ c.1 → ¬ (c.1 = 34 ∨ c.1 = 92 ∨ c.1 = 8 ∨ c.1 = 12 ∨ c.1 = 10 ∨ c.1 = 13 ∨ c.1 = 9) → escL (UInt8.ofNat c.1) = [UInt8.ofNat c.1] := by decide
  exact this ⟨c, h2⟩ hc h
/-- A row of bytes, as a text. -/
theorem conv_F {base : Nat} {v : Value} {zs : List UInt8} {w : World} (h : w.ownsRowF base 5 1 v zs.length (Lib.byteCells zs)) (h0 : zs ≠ []) :
    (convert 48 9 v).run Tryz.prog w = .ok (.string ⟨zs.toArray⟩) w := by
  have hv : ∃ g cap, v = .slice (some ⟨g, 0, none⟩) zs.length cap := by
    rcases h.2 with ⟨_, h2⟩ | ⟨g, cap, _, _, e0, _⟩
    · exact absurd (List.eq_nil_of_length_eq_zero h2) h0
    · exact ⟨g, cap, e0⟩
  obtain ⟨g, cap, rfl⟩ := hv
  refine run_convert_bytes_back w 48 9 5 _ cap zs Tryz.underlying48 Tryz.underlying5 Tryz.underlying9 (fun j hj => ?_)
  have hj' : j < zs.length := by simpa using hj
  have := h.cells (g := g) rfl j (.int .u8 (zs[j]'hj').toNat) (by simp [Lib.byteCells, List.getElem?_eq_getElem hj'])
  exact this
end Go.Proofs.YtomociaidccfmaaGreatDoor

namespace Go.Proofs.YtomociaidccfmaaGreatDoor
open Go.RowKit

theorem mixedQ : Tryz.prog.follows .mixedOrders = true := by kernel_rfl
theorem cells_new (W : World) (l : List Value) (T : TypeId) : ∀ j u, l[j]? = some u → (W.alloc (.cells l.toArray T)).cell? ((⟨W.heap.size, 0, none⟩ : Addr).add j) = some u := by
  intro j u hj
  have hadd : (⟨W.heap.size, 0, none⟩ : Addr).add j = ⟨W.heap.size, j, none⟩ := by unfold Addr.add; split <;> simp_all
  rw [hadd, cell_of_row _ W.heap.size j _ T (0, 0) (heap_alloc_new W _)]
  simpa using hj
theorem one_cells {l : List UInt8} : ∀ u ∈ Lib.byteCells l, u.oneCell' = true := by
  intro u hu
  simp only [Lib.byteCells, List.mem_map] at hu
  obtain ⟨b, _, rfl⟩ := hu
  rfl
/-- What stands in the quotation when so many bytes are taken. -/
def qPre (s : ByteArray) (pos : Nat) : List UInt8 := 34 :: escAll (s.data.toList.take pos)
theorem qPre_len (s : ByteArray) (pos : Nat) : (qPre s pos).length ≤ 6 * s.size + 1 := by
  have h1 := escAll_len (s.data.toList.take pos)
  have h2 : (s.data.toList.take pos).length ≤ s.size := by rw [List.length_take]; exact Nat.le_trans (Nat.min_le_right _ _) (by rw [Array.length_toList]; exact Nat.le_refl _)
  simp only [qPre, List.length_cons]
  omega
theorem qPre_more {s : ByteArray} {pos n : Nat} (h : pos + n ≤ s.size) : qPre s (pos + n) = qPre s pos ++ escAll (bytesAt s pos n) := by
  rw [qPre, qPre, take_bytes s pos n h, escAll_app, List.cons_append]
theorem row_more {W : World} {base : Nat} {v : Value} {A B C : List UInt8} {n : Nat} {xs : List Value} (h : W.ownsRowF base 5 1 v (A.length + n) (Lib.byteCells A ++ xs)) (hB : Lib.byteCells B = xs) (hC : C = A ++ B) (hn : n = B.length) : W.ownsRowF base 5 1 v C.length (Lib.byteCells C) := by
  subst hC hB hn
  rw [List.length_append, Lib.byteCells, List.map_append]
  exact h
theorem runeCells_bytes {c : Nat} {l : List UInt8} (h : Lib.encodeRuneZ (c : Int) = l.map (fun b => (b.toNat : Int))) : Lib.runeCells (c : Int) = Lib.byteCells l := by
  rw [Lib.runeCells, h, Lib.byteCells, List.map_map]
  rfl
/-- An append whose run is known, at a step of a region that draws its order. -/
theorem step_app_run {P : Program} {ops : Array Oper} {o : Oper} {a : Act} {w w' : World} {K : Act → World → Prop} {Q : Exit → Act → World → Prop} {E : Prop} {s x : Operand} {t : TypeId} {v u r : Value} (hgd : o.guard = none)
    (ho : o.op = .call { callee := .builtin .append, args := #[s, x], argTypes := #[t, t] }) (hs : a.eval s = v) (hx : a.eval x = u) (hr : (Builtin.append_ #[t, t] o.type #[v, u]).run P w = .ok r w') (h : K (a.put o.dst r) w') :
    if Region.wanted o (yielded ops a.tmps) = true then Oper.wp P o a w K Q else E := by
  have hw : Region.wanted o (yielded ops a.tmps) = true := by simp [Region.wanted, hgd]
  rw [if_pos hw]
  unfold Oper.wp execOp
  simp only [ho, resolve, invoke, builtin, Sem.run_bind, Sem.run_pure, Result.andThen_ok, List.map_toArray, List.map_cons, List.map_nil, hs, hx, hr]
  exact h
set_option maxRecDepth 100000 in
theorem Quote_no (s : ByteArray) (w : World) (hU : utfW s 0 = false) : Calls Tryz.prog 53 #[.string s] w fun o w' => o = .returned (.tuple #[.string ⟨#[]⟩, .int .i64 20]) ∧ Below w.heap.size w w' := by
  have HR : Hid (Calls Tryz.prog 84 #[.string s] w (BolP false w)) := Lib.hid (by rw [← hU]; exact utfRight_calls s w)
  clear hU
  go_enter Tryz.func53, Tryz.ntmps53
  go_wp2_with fail
  refine HR.out.mono ?_
  rintro o w1 ⟨rfl, hb1⟩
  go_wp2_with fail
  go_ret2
  exact ⟨rfl, hb1⟩
set_option maxRecDepth 100000 in
set_option maxHeartbeats 2000000 in
theorem Quote_yes (s : ByteArray) (w : World) (hU : utfW s 0 = true) (hs : s.size ≤ 100000) : Calls Tryz.prog 53 #[.string s] w fun o w' => o = .returned (.tuple #[.string (quoteB s), .int .i64 0]) ∧ Below w.heap.size w w' := by
  obtain ⟨i0, hi, hz0, hz1, hz2⟩ := info_parts (show (Tryz.prog.info? 5).map (fun i => (i.zero, i.size, i.bytes)) = some (some (.int .u8 0), 1, 1) by kernel_rfl)
  have HI := Lib.hid hi
  have HZ0 := Lib.hid hz0
  have HZ1 := Lib.hid hz1
  have HZ2 := Lib.hid hz2
  have HU := Lib.hid hU
  have HS := Lib.hid hs
  clear hi hz0 hz1 hz2
  have HR : Hid (Calls Tryz.prog 84 #[.string s] w (BolP true w)) := Lib.hid (by rw [← hU]; exact utfRight_calls s w)
  clear hU hs
  have hs2 : (s.size : Int) ≤ 100000 := by have := HS.out; omega
  go_enter Tryz.func53, Tryz.ntmps53
  go_wp2_with fail
  refine HR.out.mono ?_
  rintro o w1 ⟨rfl, hb1⟩
  have HB1 := Lib.hid hb1
  clear hb1
  go_wp2_with fail
  refine (letterOf_calls w1).mono ?_
  rintro o w2 ⟨rfl, hw2⟩
  have HM : Hid (w2.heap[w1.heap.size]? = some (.map (letN 7) 7)) := Lib.hid (by rw [hw2]; exact heap_alloc_new w1 _)
  have HB2 : Hid (Below w.heap.size w w2) := Lib.hid (by rw [hw2]; exact below_a HB1.out _)
  have hml : w1.heap.size < w2.heap.size := by rw [hw2]; simp
  have HML := Lib.hid hml
  clear hw2 hml
  go_wp2_with (first
    | (at_make; refine wpList_make_own _ rfl _ _ 48 rfl w2.heap.size 5 i0 (.int .u8 0) 1 Tryz.underlying48 HI.out HZ0.out HZ1.out .i64 .i64 _ (s.size + 2) rfl rfl (by omega) (by rw [HZ2.out]; have := HS.out; omega) (by unfold maxLen; have := HS.out; omega) (Nat.le_refl _) ?_; intro w3 hown3 hg3)
    | (at_builtin; refine wpList_append_ownF _ rfl _ _ 48 rfl w2.heap.size 5 i0 (.int .u8 0) 1 1 Tryz.underlying48 HI.out HZ0.out HZ1.out HZ2.out rfl (by decide) _ _ _ rfl ((World.ownsRowF_of hown3).alloc _) ⟨w3.heap.size, 0, none⟩ 1 1 (Lib.byteCells [34]) rfl rfl (cells_new w3 (Lib.byteCells [34]) _) one_cells (by unfold maxLen; omega) (by omega) (by have := hg3.size; simp; omega) ?_; intro v4 w4 hown4 hg4 _))
  obtain ⟨ao, n4, c4, rfl⟩ : ∃ ao n' cap, v4 = .slice ao n' cap := by
    rcases hown4.2 with ⟨hv, _⟩ | ⟨g, cap, cur, fz, hv, _⟩
    · exact ⟨_, _, _, hv⟩
    · exact ⟨_, _, _, hv⟩
  have HB4 : Hid (Below w2.heap.size w2 w4) := Lib.hid (((Below.refl _ _).grown hg3 (Nat.le_refl _) (fun k e => by cases e) |>.alloc hg3.size _).grown hg4 (by have := hg3.size; simp; omega) (fun k e => by cases e; exact Nat.le_refl _))
  have HO4 := Lib.hid hown4
  clear hown3 hg3 hown4 hg4
  go_wp2
  obtain ⟨J, hJ⟩ : ∃ J, J = w4.heap.size := ⟨_, rfl⟩
  have HJ := Lib.hid hJ
  have HQ4 : Hid (w4.ownsRowF w2.heap.size 5 1 (.slice ao n4 c4) (qPre s 0).length (Lib.byteCells (qPre s 0))) := Lib.hid (by simpa [qPre, escAll, Lib.byteCells] using HO4.out)
  have HM4 : Hid (w4.heap[w1.heap.size]? = some (.map (letN 7) 7)) := Lib.hid ((HB4.out.block _ HML.out).trans HM.out)
  clear HM HO4
  rw [← hJ]
  clear hJ
  go_loopw [5] (fun v wr => ∃ pos : Nat, pos ≤ s.size ∧ utfW s pos = true ∧ wr.heap[J]? = some (.stringIter s pos) ∧ wr.ownsRowF w2.heap.size 5 1 v (qPre s pos).length (Lib.byteCells (qPre s pos)) ∧ wr.heap[w1.heap.size]? = some (.map (letN 7) 7) ∧ Below w2.heap.size w2 wr) (fun _ wr => s.size - wr.iterPos J)
  case atStart => exact ⟨0, Nat.zero_le _, HU.out, by rw [HJ.out]; exact World.iter_heap w4 s 0, HQ4.out.alloc _, (Below.heap_alloc _ _ _ (Array.getElem?_eq_some_iff.1 HM4.out).1).trans HM4.out, below_a HB4.out _⟩
  case round =>
    obtain ⟨pos, hp, hu, hit, hv, hm, hb⟩ := hrel
    have HV := Lib.hid hv
    have HB := Lib.hid hb
    have HIt := Lib.hid hit
    have HMr := Lib.hid hm
    clear HQ4 HM4
    obtain ⟨ar, nr, cr, rfl⟩ : ∃ ao n' cap, u5 = .slice ao n' cap := by
      rcases hv.2 with ⟨hv, _⟩ | ⟨g, cap, cur, fz, hv, _⟩
      · exact ⟨_, _, _, hv⟩
      · exact ⟨_, _, _, hv⟩
    clear hv hb hit hm
    by_cases hlt : pos < s.size
    · have hnx := fun ty => Lib.run_next_any_at (P := Tryz.prog) wr J s pos ty HIt.out hlt
      have hbad : badU s pos = false := by
        rw [utfW, if_pos hlt] at hu
        cases hb : badU s pos with
        | false => rfl
        | true => rw [hb] at hu; simp at hu
      obtain ⟨c, n, hd, hn1, hn2, hc, hcase⟩ := dec_split s pos hlt hbad
      have HU1 : Hid (utfW s (pos + n) = true) := Lib.hid (by rw [utfW, if_pos hlt, hbad, hd] at hu; exact hu)
      rw [hd] at hnx
      obtain ⟨W1, hW1⟩ : ∃ W1, W1 = wr.iterAt J s (pos + n) := ⟨_, rfl⟩
      simp only [← hW1] at hnx
      have hJl : J < wr.heap.size := (Array.getElem?_eq_some_iff.1 HIt.out).1
      have hJ2 : w2.heap.size ≤ J := by rw [HJ.out]; exact HB4.out.size
      have HJ1 : Hid (W1.heap[J]? = some (.stringIter s (pos + n))) := Lib.hid (by rw [hW1]; exact Lib.iterAt_heap wr _ s pos _ HIt.out)
      have HB1 : Hid (Below w2.heap.size w2 W1) := Lib.hid (by
        rw [hW1]
        exact ⟨HB.out.os, HB.out.tape, HB.out.output, by rw [Lib.iterAt_size]; exact HB.out.size, fun k hk => (Lib.iterAt_other wr _ _ s _ (by omega)).trans (HB.out.block k hk)⟩)
      have hmj : w1.heap.size ≠ J := by have := HML.out; omega
      have hm1 : W1.heap[w1.heap.size]? = some (.map (letN 7) 7) := by rw [hW1]; exact (Lib.iterAt_other wr _ _ s _ hmj).trans HMr.out
      have HM1 := Lib.hid hm1
      have HO1 : Hid (W1.ownsRowF w2.heap.size 5 1 (.slice ar nr cr) (qPre s pos).length (Lib.byteCells (qPre s pos))) := Lib.hid (by
        refine HV.out.kept (row := some J) ?_ ?_
        · rw [hW1]
          exact ⟨rfl, rfl, rfl, by rw [Lib.iterAt_size]; exact Nat.le_refl _, fun k _ hk => Lib.iterAt_other wr _ _ s _ (fun e => hk (by rw [e]))⟩
        · refine .inr fun e => ?_
          rcases HV.out.2 with ⟨hv, _⟩ | ⟨g, cap, cur, fz, hv, _, h2, _⟩
          · rw [hv] at e; cases e
          · rw [hv] at e
            have h3 := HIt.out
            rw [← Option.some.inj e] at h3
            exact absurd (h2.symm.trans h3) (fun h => by cases h))
      have HMore : Hid (qPre s (pos + n) = qPre s pos ++ escAll (bytesAt s pos n)) := Lib.hid (qPre_more hn2)
      have HC := Lib.hid hcase
      have HN1 := Lib.hid hn1
      have HN2 := Lib.hid hn2
      have HCb := Lib.hid hc
      have HHu := Lib.hid hu
      have done : ∀ (v : Value) (o : Obj) (w5 : World), (W1.alloc o).grownBy w5 (Value.ownBlock (.slice ar nr cr)) → w5.ownsRowF w2.heap.size 5 1 v (qPre s (pos + n)).length (Lib.byteCells (qPre s (pos + n))) →
          pos + n ≤ s.size ∧ utfW s (pos + n) = true ∧ w5.heap[J]? = some (.stringIter s (pos + n)) ∧ w5.ownsRowF w2.heap.size 5 1 v (qPre s (pos + n)).length (Lib.byteCells (qPre s (pos + n))) ∧ w5.heap[w1.heap.size]? = some (.map (letN 7) 7) ∧ Below w2.heap.size w2 w5 := by
        intro v o w5 hg hown
        have hnc : ∀ (k : Nat) (ob : Obj), W1.heap[k]? = some ob → (∀ cs T f, ob ≠ .cells cs T f) → w5.heap[k]? = some ob := by
          intro k ob hk hob
          have hlt := (Array.getElem?_eq_some_iff.1 hk).1
          refine (hg.block k (by simp; omega) (fun e => ?_)).trans ((Below.heap_alloc _ _ _ hlt).trans hk)
          rcases HO1.out.2 with ⟨hv, _⟩ | ⟨g, cap, cur, fz, hv, _, h2, _⟩
          · rw [hv] at e; cases e
          · rw [hv] at e
            rw [Option.some.inj e] at hk
            rw [show (⟨g, 0, none⟩ : Addr).block = g from rfl, h2] at hk
            exact hob _ _ _ (Option.some.inj hk).symm
        refine ⟨HN2.out, HU1.out, hnc _ _ HJ1.out (fun _ _ _ e => by cases e), hown, hnc _ _ HM1.out (fun _ _ _ e => by cases e), (HB1.out.alloc HB1.out.size o).grown hg (by have := HB1.out.size; simp; omega) (fun k e => ((HO1.out.lt k e).1))⟩
      have HD := Lib.hid done
      have hme : ∀ w5 : World, w5.heap[J]? = some (.stringIter s (pos + n)) → s.size - w5.iterPos J < s.size - wr.iterPos J := by
        intro w5 h5
        rw [World.iterPos, World.iterPos, h5, HIt.out]
        have := HN1.out
        show s.size - (pos + n) < s.size - pos
        omega
      have HMe := Lib.hid hme
      clear hW1 hd hbad hcase hn1 hn2 hc hu done hme
      by_cases hl : isLet c
      · have hlk := run_letter hm1 hl
        have hc128 : c < 128 := by rcases hl with h | h | h | h | h | h | h <;> omega
        have HE : Hid (escAll (bytesAt s pos n) = [92, UInt8.ofNat (letV c)] ∧ letV c < 256) := Lib.hid (by
          rcases HC.out with ⟨_, rfl, hb⟩ | ⟨h, _⟩
          · refine ⟨?_, ?_⟩
            · rw [show bytesAt s pos 1 = [UInt8.ofNat c] from by rw [← hb]; simp [bytesAt], escAll, List.flatMap_cons, List.flatMap_nil, List.append_nil, escL_let hl]
            · rcases hl with rfl | rfl | rfl | rfl | rfl | rfl | rfl <;> decide
          · omega)
        clear hl hm1
        go_wp2_with (at_builtin; refine wpList_append_ownF _ rfl _ _ 48 rfl w2.heap.size 5 i0 (.int .u8 0) 1 1 Tryz.underlying48 HI.out HZ0.out HZ1.out HZ2.out rfl (by decide) _ _ _ rfl (HO1.out.alloc _) ⟨W1.heap.size, 0, none⟩ 2 2 [Value.int .u8 92, .int .u8 (letV c : Int)] rfl rfl (cells_new W1 [Value.int .u8 92, .int .u8 (letV c : Int)] _) (by intro u hu; simp at hu; rcases hu with rfl | rfl <;> rfl) (by have := qPre_len s pos; have := HS.out; unfold maxLen; omega) (by have := qPre_len s pos; have := HS.out; omega) (by have := HB1.out.size; simp; omega) ?_; intro v5 w5 hown5 hg5 _)
        obtain ⟨a6, n6, c6, rfl⟩ : ∃ ao n' cap, v5 = .slice ao n' cap := by
          rcases hown5.2 with ⟨hv, _⟩ | ⟨g, cap, cur, fz, hv, _⟩
          · exact ⟨_, _, _, hv⟩
          · exact ⟨_, _, _, hv⟩
        have HR := Lib.hid (HD.out _ _ _ hg5 (row_more hown5 (B := [92, UInt8.ofNat (letV c)]) (by have := HE.out.2; simp [Lib.byteCells]; omega) (by rw [HMore.out, HE.out.1]) rfl))
        clear hown5 hg5
        go_wp2
        go_roundw
        case rel => exact ⟨pos + n, HR.out⟩
        case measure => exact HMe.out _ HR.out.2.2.1
      · have hlk := run_noLetter hm1 hl
        by_cases h32 : c < 32
        · have h32i : (c : Int) < 32 := by omega
          have HE : Hid (escAll (bytesAt s pos n) = [92, 117, 48, 48, hexd (c / 16), hexd (c % 16)]) := Lib.hid (by
            rcases HC.out with ⟨_, rfl, hb⟩ | ⟨h, _⟩
            · rw [show bytesAt s pos 1 = [UInt8.ofNat c] from by rw [← hb]; simp [bytesAt], escAll, List.flatMap_cons, List.flatMap_nil, List.append_nil, escL_low hl h32]
            · omega)
          clear hl hm1
          obtain ⟨L, hL⟩ : ∃ L : ByteArray, L = ⟨#[48, 49, 50, 51, 52, 53, 54, 55, 56, 57, 97, 98, 99, 100, 101, 102]⟩ := ⟨_, rfl⟩
          have hLs : L.size = 16 := by rw [hL]; rfl
          have HL := Lib.hid hL
          obtain ⟨n0, hn0⟩ : ∃ n, n = c / 16 := ⟨_, rfl⟩
          obtain ⟨n1, hn1⟩ : ∃ n, n = c % 16 := ⟨_, rfl⟩
          have l0 : n0 < L.size := by omega
          have l1 : n1 < L.size := by omega
          have hxd : ∀ (k : Nat) (hk : k < L.size), (L[k]'hk) = hexd k := by
            intro k hk
            have : ∀ k : Fin 16, (⟨#[48, 49, 50, 51, 52, 53, 54, 55, 56, 57, 97, 98, 99, 100, 101, 102]⟩ : ByteArray).data[k.1]?.getD 0 = hexd k.1 := by decide
            have h := this ⟨k, by omega⟩
            subst hL
            rw [← h]
            show _ = ((_ : Array UInt8)[k]?).getD 0
            rw [Array.getElem?_eq_getElem (show k < 16 from hk)]
            rfl
          have v0 : (L[n0]'l0).toNat = (hexd n0).toNat := by rw [hxd]
          have v1 : (L[n1]'l1).toNat = (hexd n1).toNat := by rw [hxd]
          have i1 : (n0 : Int) < (L.size : Int) := by omega
          have i2 : (n1 : Int) < (L.size : Int) := by omega
          have q0 : (c : Int) / 16 = (n0 : Int) := by omega
          have q1 : bits BinOp.and IntKind.i32 (c : Int) 15 = (n1 : Int) := by
            rw [hn1]
            exact (show ∀ c : Fin 32, bits BinOp.and IntKind.i32 ((c.1 : Nat) : Int) 15 = ((c.1 % 16 : Nat) : Int) by decide +kernel) ⟨c, h32⟩
          have h256 : (hexd n0).toNat < 256 ∧ (hexd n1).toNat < 256 := ⟨UInt8.toNat_lt _, UInt8.toNat_lt _⟩
          rw [← hn0, ← hn1] at HE
          obtain ⟨x0, hx0⟩ : ∃ x : Nat, x = (hexd n0).toNat := ⟨_, rfl⟩
          obtain ⟨x1, hx1⟩ : ∃ x : Nat, x = (hexd n1).toNat := ⟨_, rfl⟩
          rw [← hx0] at v0
          rw [← hx1] at v1
          have HX : Hid (Lib.byteCells [92, 117, 48, 48, hexd n0, hexd n1] = [Value.int .u8 92, .int .u8 117, .int .u8 48, .int .u8 48, .int .u8 (x0 : Int), .int .u8 (x1 : Int)]) := Lib.hid (by rw [hx0, hx1]; rfl)
          obtain ⟨v5, w5, hrun, hown5, hg5, _⟩ := run_append_ownF (P := Tryz.prog) (w := (W1.alloc (.cells #[.int .u8 92, .int .u8 117, .int .u8 48, .int .u8 48, .int .u8 (x0 : Int), .int .u8 (x1 : Int)] 5)).drew) w2.heap.size 48 48 5 i0 (.int .u8 0) 1 1 Tryz.underlying48 HI.out HZ0.out HZ1.out HZ2.out rfl (by decide) (.slice ar nr cr) _ _ (HO1.out.alloc _) ⟨W1.heap.size, 0, none⟩ 6 6 [Value.int .u8 92, .int .u8 117, .int .u8 48, .int .u8 48, .int .u8 (x0 : Int), .int .u8 (x1 : Int)] rfl (cells_new W1 [Value.int .u8 92, .int .u8 117, .int .u8 48, .int .u8 48, .int .u8 (x0 : Int), .int .u8 (x1 : Int)] _) (by intro u hu; simp at hu; rcases hu with rfl | rfl | rfl | rfl | rfl <;> rfl) (by have := qPre_len s pos; have := HS.out; unfold maxLen; omega) (by have := qPre_len s pos; have := HS.out; omega) (by have := HB1.out.size; show _ ≤ (W1.alloc _).heap.size; simp; omega)
          obtain ⟨a6, n6, c6, rfl⟩ : ∃ ao n' cap, v5 = .slice ao n' cap := by
            rcases hown5.2 with ⟨hv, _⟩ | ⟨g, cap, cur, fz, hv, _⟩
            · exact ⟨_, _, _, hv⟩
            · exact ⟨_, _, _, hv⟩
          have HR := Lib.hid (HD.out _ _ _ (⟨hg5.os, hg5.tape, hg5.output, hg5.size, hg5.block⟩ : (W1.alloc _).grownBy w5 _) (row_more hown5 (B := [92, 117, 48, 48, hexd n0, hexd n1]) HX.out (by rw [HMore.out, HE.out]) rfl))
          have HRun := Lib.hid hrun
          clear hL hxd hLs hn0 hn1 hx0 hx1 hown5 hg5 hrun h256
          go_upto_region 14 with fail
          rw [← HL.out]
          go_region_law (refine step_app_run (v := .slice ar nr cr) (u := .slice (some ⟨W1.heap.size, 0, none⟩) 6 6) rfl rfl (by simp [Act.eval]) (by simp [Act.eval]) HRun.out ?_)
          all_goals go_wp2
          all_goals go_roundw
          all_goals first
            | exact HMe.out _ HR.out.2.2.1
            | ((repeat apply Exists.intro); exact ⟨⟨pos + n, HR.out⟩, rfl⟩)
        · have h32i : ¬ (c : Int) < 32 := by omega
          have hrc : Lib.runeCells (c : Int) = Lib.byteCells (bytesAt s pos n) ∧ escAll (bytesAt s pos n) = bytesAt s pos n := by
            rcases HC.out with ⟨h1, rfl, hb⟩ | ⟨h, h2, h3⟩
            · have hbb : bytesAt s pos 1 = [UInt8.ofNat c] := by rw [← hb]; simp [bytesAt]
              rw [hbb]
              refine ⟨?_, ?_⟩
              · rw [Lib.runeCells, Lib.encodeRuneZ_one (by omega) (by omega)]
                simp [Lib.byteCells]
                omega
              · rw [escAll, List.flatMap_cons, List.flatMap_nil, List.append_nil, escL_self hl (by omega) h1]
            · exact ⟨runeCells_bytes h2, escAll_high h3⟩
          have HE := Lib.hid hrc
          clear hrc hl hm1
          go_wp2_with fail
          refine (Tryz.utf8_AppendRune_row w2.heap.size _ _ _ (c : Int) (by omega) (by have := HCb.out; omega) W1 HO1.out (by have := qPre_len s pos; have := HS.out; omega) HB1.out.size).mono ?_
          rintro o w5 ⟨v5, rfl, hown5, ob, hg5⟩
          obtain ⟨a6, n6, c6, rfl⟩ : ∃ ao n' cap, v5 = .slice ao n' cap := by
            rcases hown5.2 with ⟨hv, _⟩ | ⟨g, cap, cur, fz, hv, _⟩
            · exact ⟨_, _, _, hv⟩
            · exact ⟨_, _, _, hv⟩
          have HR := Lib.hid (HD.out _ _ _ hg5 (row_more hown5 (B := bytesAt s pos n) HE.out.1.symm (by rw [HMore.out, HE.out.2]) (by rw [HE.out.1, Lib.byteCells, List.length_map])))
          clear hown5 hg5
          go_wp2
          go_roundw
          case rel => exact ⟨pos + n, HR.out⟩
          case measure => exact HMe.out _ HR.out.2.2.1
    · have hnx := fun ty => Lib.run_next_end_at (P := Tryz.prog) wr J s pos ty HIt.out hlt
      have hpe : pos = s.size := by omega
      have HEn : Hid (qPre s pos ++ [34] = (quoteB s).data.toList) := Lib.hid (by rw [hpe, qPre, List.take_of_length_le (by rw [Array.length_toList]; exact Nat.le_refl _)]; rfl)
      clear hpe
      have HB1 := HB
      go_wp2_with (at_builtin; refine wpList_append_ownF _ rfl _ _ 48 rfl w2.heap.size 5 i0 (.int .u8 0) 1 1 Tryz.underlying48 HI.out HZ0.out HZ1.out HZ2.out rfl (by decide) _ _ _ rfl (HV.out.alloc _) ⟨wr.heap.size, 0, none⟩ 1 1 (Lib.byteCells [34]) rfl rfl (cells_new wr (Lib.byteCells [34]) _) one_cells (by have := qPre_len s pos; have := HS.out; unfold maxLen; omega) (by have := qPre_len s pos; have := HS.out; omega) (by have := HB1.out.size; simp; omega) ?_; intro v5 w5 hown5 hg5 _; have hcv := conv_F (row_more hown5 (B := [34]) rfl rfl rfl) (by simp [qPre]))
      go_ret2
      refine ⟨?_, ?_⟩
      · rw [HEn.out]
        rfl
      · exact (HB2.out.trans (((HB.out.alloc HB.out.size _).grown hg5 (by have := HB.out.size; simp; omega) (fun k e => (HV.out.lt k e).1)).mono HB2.out.size))
end Go.Proofs.YtomociaidccfmaaGreatDoor
