/- The program's own: letterOf. -/
import Derived.Test.YtallgamfjbkdgaaGreatDoorU0
import Derived.Laws.EntriesVeiled
import Derived.MapKept
import Derived.Lib.FrozenHead2
import Derived.Lib.OwnBridge
import Derived.Deep.RegionLaw
import Derived.Test.YtallgamfjbkdgaaGreatDoorSh
namespace Go.Proofs.YtallgamfjbkdgaaGreatDoor
open Go.RowKit

def letE : List MapEntry := [⟨.int .i32 34, .int .u8 34, 0⟩, ⟨.int .i32 92, .int .u8 92, 1⟩, ⟨.int .i32 8, .int .u8 98, 2⟩, ⟨.int .i32 12, .int .u8 102, 3⟩, ⟨.int .i32 10, .int .u8 110, 4⟩, ⟨.int .i32 13, .int .u8 114, 5⟩, ⟨.int .i32 9, .int .u8 116, 6⟩]
def letN (i : Nat) : Array MapEntry := (letE.take i).toArray
theorem updL {w : World} {es : Array MapEntry} {clock : Nat} {a : Int} {v : Value} (h : Instr.findNow (.int .i32) (.int .i32 a) es.toList 0 = some none) :
    (Instr.mapUpdate 127 (.map (some w.heap.size)) (.int .i32 a) v).run Tryz.prog (w.alloc (.map es clock)) = .ok () (w.alloc (.map (es.push { key := .int .i32 a, val := v, born := clock }) (clock + 1))) := by
  have hk : MapKept.IsKey (.int .i32) (.int .i32 a) := rfl
  have hb : (w.alloc (.map es clock)).heap[w.heap.size]? = some (.map es clock) := heap_alloc_new w _
  simp [Instr.mapUpdate, run_underlying Tryz.underlying127, MapKept.run_getObj_map hb, MapKept.run_checkKey Tryz.underlying21 hk, MapKept.run_findKey Tryz.underlying21 h, MapKept.run_setObj_map _ hb, Result.andThen]
  have e : (w.alloc (.map es clock)).heap.setIfInBounds w.heap.size (.map (es.push { key := .int .i32 a, val := v, born := clock }) (clock + 1)) = (w.alloc (.map (es.push { key := .int .i32 a, val := v, born := clock }) (clock + 1))).heap := by
    show (w.heap.push _).setIfInBounds w.heap.size _ = w.heap.push _
    apply Array.toList_inj.1
    simp
  rw [e]
  rfl
set_option maxRecDepth 100000 in
theorem letterOf_calls (w : World) : Calls Tryz.prog 89 #[] w fun o w' => o = .returned (.map (some w.heap.size)) ∧ w' = w.alloc (.map (letN 7) 7) := by
  have hmm := @run_makeMap Tryz.prog
  have u0 : (Instr.mapUpdate 127 (.map (some w.heap.size)) (.int .i32 34) (.int .u8 34)).run Tryz.prog (w.alloc (.map #[] 0)) = .ok () (w.alloc (.map (letN 1) 1)) := updL (es := #[]) (clock := 0) (by rfl)
  have u1 : (Instr.mapUpdate 127 (.map (some w.heap.size)) (.int .i32 92) (.int .u8 92)).run Tryz.prog (w.alloc (.map (letN 1) 1)) = .ok () (w.alloc (.map (letN 2) 2)) := updL (es := letN 1) (clock := 1) (by rfl)
  have u2 : (Instr.mapUpdate 127 (.map (some w.heap.size)) (.int .i32 8) (.int .u8 98)).run Tryz.prog (w.alloc (.map (letN 2) 2)) = .ok () (w.alloc (.map (letN 3) 3)) := updL (es := letN 2) (clock := 2) (by rfl)
  have u3 : (Instr.mapUpdate 127 (.map (some w.heap.size)) (.int .i32 12) (.int .u8 102)).run Tryz.prog (w.alloc (.map (letN 3) 3)) = .ok () (w.alloc (.map (letN 4) 4)) := updL (es := letN 3) (clock := 3) (by rfl)
  have u4 : (Instr.mapUpdate 127 (.map (some w.heap.size)) (.int .i32 10) (.int .u8 110)).run Tryz.prog (w.alloc (.map (letN 4) 4)) = .ok () (w.alloc (.map (letN 5) 5)) := updL (es := letN 4) (clock := 4) (by rfl)
  have u5 : (Instr.mapUpdate 127 (.map (some w.heap.size)) (.int .i32 13) (.int .u8 114)).run Tryz.prog (w.alloc (.map (letN 5) 5)) = .ok () (w.alloc (.map (letN 6) 6)) := updL (es := letN 5) (clock := 5) (by rfl)
  have u6 : (Instr.mapUpdate 127 (.map (some w.heap.size)) (.int .i32 9) (.int .u8 116)).run Tryz.prog (w.alloc (.map (letN 6) 6)) = .ok () (w.alloc (.map (letN 7) 7)) := updL (es := letN 6) (clock := 6) (by rfl)
  go_enter Tryz.func89, Tryz.ntmps89
  go_wp2
  go_ret
  exact ⟨rfl, rfl⟩
/-- The letter that stands for a character, 0 where there is none. -/
def letV (c : Nat) : Nat := if c = 34 then 34 else if c = 92 then 92 else if c = 8 then 98 else if c = 12 then 102 else if c = 10 then 110 else if c = 13 then 114 else if c = 9 then 116 else 0
def letAt (c : Nat) : Nat := if c = 34 then 0 else if c = 92 then 1 else if c = 8 then 2 else if c = 12 then 3 else if c = 10 then 4 else if c = 13 then 5 else 6
def isLet (c : Nat) : Prop := c = 34 ∨ c = 92 ∨ c = 8 ∨ c = 12 ∨ c = 10 ∨ c = 13 ∨ c = 9
theorem findLet {c : Nat} (h : isLet c) : Instr.findNow (.int .i32) (.int .i32 (c : Int)) (letN 7).toList 0 = some (some (letAt c, .int .u8 (letV c : Int))) := by
  rcases h with rfl | rfl | rfl | rfl | rfl | rfl | rfl <;> rfl
theorem findNo {c : Nat} (h : ¬ isLet c) : Instr.findNow (.int .i32) (.int .i32 (c : Int)) (letN 7).toList 0 = some none := by
  simp only [isLet, not_or] at h
  have h1 : ∀ i : Nat, c ≠ i → ((c : Int) == (i : Int)) = false := fun i h => by simp; omega
  have e1 := h1 34 h.1
  have e2 := h1 92 h.2.1
  have e3 := h1 8 h.2.2.1
  have e4 := h1 12 h.2.2.2.1
  have e5 := h1 10 h.2.2.2.2.1
  have e6 := h1 13 h.2.2.2.2.2.1
  have e7 := h1 9 h.2.2.2.2.2.2
  simp only [Int.cast_ofNat_Int] at e1 e2 e3 e4 e5 e6 e7
  simp [letN, letE, Instr.findNow, Instr.sameNow, e1, e2, e3, e4, e5, e6, e7]
theorem run_letter {w : World} {B : Nat} {c : Nat} (hb : w.heap[B]? = some (.map (letN 7) 7)) (h : isLet c) :
    (Instr.lookup 127 (.map (some B)) (.int .i32 (c : Int)) true).run Tryz.prog w = .ok (.tuple #[.int .u8 (letV c : Int), .bool true]) w := by
  have hk : MapKept.IsKey (.int .i32) (.int .i32 (c : Int)) := rfl
  simp [Instr.lookup, run_underlying Tryz.underlying127, MapKept.run_getObj_map hb, MapKept.run_checkKey Tryz.underlying21 hk, MapKept.run_findKey Tryz.underlying21 (findLet h), Result.andThen]
theorem run_noLetter {w : World} {B : Nat} {c : Nat} (hb : w.heap[B]? = some (.map (letN 7) 7)) (h : ¬ isLet c) :
    (Instr.lookup 127 (.map (some B)) (.int .i32 (c : Int)) true).run Tryz.prog w = .ok (.tuple #[.int .u8 0, .bool false]) w := by
  have hk : MapKept.IsKey (.int .i32) (.int .i32 (c : Int)) := rfl
  simp [Instr.lookup, run_underlying Tryz.underlying127, MapKept.run_getObj_map hb, MapKept.run_checkKey Tryz.underlying21 hk, MapKept.run_findKey Tryz.underlying21 (findNo h), Result.andThen]
theorem escL_let {c : Nat} (h : isLet c) : escL (UInt8.ofNat c) = [92, UInt8.ofNat (letV c)] := by
  rcases h with rfl | rfl | rfl | rfl | rfl | rfl | rfl <;> rfl
theorem escL_low {c : Nat} (h : ¬ isLet c) (hc : c < 32) : escL (UInt8.ofNat c) = [92, 117, 48, 48, hexd (c / 16), hexd (c % 16)] := by
  have : ∀ c : Fin 32, ¬ (c.1 = 34 ∨ c.1 = 92 ∨ c.1 = 8 ∨ c.1 = 12 ∨ c.1 = 10 ∨ c.1 = 13 ∨ c.1 = 9) → escL (UInt8.ofNat c.1) = [92, 117, 48, 48, hexd (c.1 / 16), hexd (c.1 % 16)] := by decide
  exact this ⟨c, hc⟩ h
theorem escL_self {c : Nat} (h : ¬ isLet c) (hc : 32 ≤ c) (h2 : c < 128) : escL (UInt8.ofNat c) = [UInt8.ofNat c] := by
  have : ∀ c : Fin 128, 32 ≤ c.1 → ¬ (c.1 = 34 ∨ c.1 = 92 ∨ c.1 = 8 ∨ c.1 = 12 ∨ c.1 = 10 ∨ c.1 = 13 ∨ c.1 = 9) → escL (UInt8.ofNat c.1) = [UInt8.ofNat c.1] := by decide
  exact this ⟨c, h2⟩ hc h
/-- A row of bytes, as a text. -/
theorem conv_F {base : Nat} {v : Value} {zs : List UInt8} {w : World} (h : w.ownsRowF base 5 1 v zs.length (Lib.byteCells zs)) (h0 : zs ≠ []) :
    (convert 52 9 v).run Tryz.prog w = .ok (.string ⟨zs.toArray⟩) w := by
  have hv : ∃ g cap, v = .slice (some ⟨g, 0, none⟩) zs.length cap := by
    rcases h.2 with ⟨_, h2⟩ | ⟨g, cap, _, _, e0, _⟩
    · exact absurd (List.eq_nil_of_length_eq_zero h2) h0
    · exact ⟨g, cap, e0⟩
  obtain ⟨g, cap, rfl⟩ := hv
  refine run_convert_bytes_back w 52 9 5 _ cap zs Tryz.underlying52 Tryz.underlying5 Tryz.underlying9 (fun j hj => ?_)
  have hj' : j < zs.length := by simpa using hj
  have := h.cells (g := g) rfl j (.int .u8 (zs[j]'hj').toNat) (by simp [Lib.byteCells, List.getElem?_eq_getElem hj'])
  exact this
end Go.Proofs.YtallgamfjbkdgaaGreatDoor
