/- The program's own: rightKinds, and what is looked up in it. errors.Is, where the target is one that errors.New made. -/
import Derived.Test.YtppapkpceejnkaaGreatDoorMa
import Derived.Laws.EntriesVeiled
import Derived.MapKept
import Derived.LaidEql
import Derived.Stop.Asserts
import Derived.RowKitTokens

namespace Go.Proofs.YtppapkpceejnkaaGreatDoor
open Go.RowKit

def ents : List MapEntry := [⟨.int .i64 1, .func (.func 80) #[] #[], 0⟩, ⟨.int .i64 2, .func (.func 81) #[] #[], 1⟩, ⟨.int .i64 3, .func (.func 82) #[] #[], 2⟩, ⟨.int .i64 4, .func (.func 83) #[] #[], 3⟩, ⟨.int .i64 5, .func (.func 84) #[] #[], 4⟩, ⟨.int .i64 6, .func (.func 85) #[] #[], 5⟩, ⟨.int .i64 7, .func (.func 86) #[] #[], 6⟩, ⟨.int .i64 8, .func (.func 87) #[] #[], 7⟩, ⟨.int .i64 9, .func (.func 88) #[] #[], 8⟩, ⟨.int .i64 10, .func (.func 89) #[] #[], 9⟩, ⟨.int .i64 11, .func (.func 90) #[] #[], 10⟩]
def entsN (i : Nat) : Array MapEntry := (ents.take i).toArray
theorem upd {w : World} {es : Array MapEntry} {clock : Nat} {a : Int} {v : Value} (h : Instr.findNow (.int .i64) (.int .i64 a) es.toList 0 = some none) :
    (Instr.mapUpdate 101 (.map (some w.heap.size)) (.int .i64 a) v).run Tryz.prog (w.alloc (.map es clock)) = .ok () (w.alloc (.map (es.push { key := .int .i64 a, val := v, born := clock }) (clock + 1))) := by
  have hk : MapKept.IsKey (.int .i64) (.int .i64 a) := rfl
  have hb : (w.alloc (.map es clock)).heap[w.heap.size]? = some (.map es clock) := heap_alloc_new w _
  simp [Instr.mapUpdate, run_underlying Tryz.underlying101, MapKept.run_getObj_map hb, MapKept.run_checkKey Tryz.underlying3 hk, MapKept.run_findKey Tryz.underlying3 h, MapKept.run_setObj_map _ hb, Result.andThen]
  have e : (w.alloc (.map es clock)).heap.setIfInBounds w.heap.size (.map (es.push { key := .int .i64 a, val := v, born := clock }) (clock + 1)) = (w.alloc (.map (es.push { key := .int .i64 a, val := v, born := clock }) (clock + 1))).heap := by
    show (w.heap.push _).setIfInBounds w.heap.size _ = w.heap.push _
    apply Array.toList_inj.1
    simp
  rw [e]
  rfl
set_option maxRecDepth 100000 in
theorem rightKinds_calls (w : World) : Calls Tryz.prog 53 #[] w fun o w' => o = .returned (.map (some w.heap.size)) ∧ w' = w.alloc (.map (entsN 11) 11) := by
  have hmm := @run_makeMap Tryz.prog
  have u0 : (Instr.mapUpdate 101 (.map (some w.heap.size)) (.int .i64 1) (.func (.func 80) #[] #[])).run Tryz.prog (w.alloc (.map #[] 0)) = .ok () (w.alloc (.map (entsN 1) 1)) := upd (es := #[]) (clock := 0) (by rfl)
  have u1 : (Instr.mapUpdate 101 (.map (some w.heap.size)) (.int .i64 2) (.func (.func 81) #[] #[])).run Tryz.prog (w.alloc (.map (entsN 1) 1)) = .ok () (w.alloc (.map (entsN 2) 2)) := upd (es := (entsN 1)) (clock := 1) (by rfl)
  have u2 : (Instr.mapUpdate 101 (.map (some w.heap.size)) (.int .i64 3) (.func (.func 82) #[] #[])).run Tryz.prog (w.alloc (.map (entsN 2) 2)) = .ok () (w.alloc (.map (entsN 3) 3)) := upd (es := (entsN 2)) (clock := 2) (by rfl)
  have u3 : (Instr.mapUpdate 101 (.map (some w.heap.size)) (.int .i64 4) (.func (.func 83) #[] #[])).run Tryz.prog (w.alloc (.map (entsN 3) 3)) = .ok () (w.alloc (.map (entsN 4) 4)) := upd (es := (entsN 3)) (clock := 3) (by rfl)
  have u4 : (Instr.mapUpdate 101 (.map (some w.heap.size)) (.int .i64 5) (.func (.func 84) #[] #[])).run Tryz.prog (w.alloc (.map (entsN 4) 4)) = .ok () (w.alloc (.map (entsN 5) 5)) := upd (es := (entsN 4)) (clock := 4) (by rfl)
  have u5 : (Instr.mapUpdate 101 (.map (some w.heap.size)) (.int .i64 6) (.func (.func 85) #[] #[])).run Tryz.prog (w.alloc (.map (entsN 5) 5)) = .ok () (w.alloc (.map (entsN 6) 6)) := upd (es := (entsN 5)) (clock := 5) (by rfl)
  have u6 : (Instr.mapUpdate 101 (.map (some w.heap.size)) (.int .i64 7) (.func (.func 86) #[] #[])).run Tryz.prog (w.alloc (.map (entsN 6) 6)) = .ok () (w.alloc (.map (entsN 7) 7)) := upd (es := (entsN 6)) (clock := 6) (by rfl)
  have u7 : (Instr.mapUpdate 101 (.map (some w.heap.size)) (.int .i64 8) (.func (.func 87) #[] #[])).run Tryz.prog (w.alloc (.map (entsN 7) 7)) = .ok () (w.alloc (.map (entsN 8) 8)) := upd (es := (entsN 7)) (clock := 7) (by rfl)
  have u8 : (Instr.mapUpdate 101 (.map (some w.heap.size)) (.int .i64 9) (.func (.func 88) #[] #[])).run Tryz.prog (w.alloc (.map (entsN 8) 8)) = .ok () (w.alloc (.map (entsN 9) 9)) := upd (es := (entsN 8)) (clock := 8) (by rfl)
  have u9 : (Instr.mapUpdate 101 (.map (some w.heap.size)) (.int .i64 10) (.func (.func 89) #[] #[])).run Tryz.prog (w.alloc (.map (entsN 9) 9)) = .ok () (w.alloc (.map (entsN 10) 10)) := upd (es := (entsN 9)) (clock := 9) (by rfl)
  have u10 : (Instr.mapUpdate 101 (.map (some w.heap.size)) (.int .i64 11) (.func (.func 90) #[] #[])).run Tryz.prog (w.alloc (.map (entsN 10) 10)) = .ok () (w.alloc (.map (entsN 11) 11)) := upd (es := (entsN 10)) (clock := 10) (by rfl)
  go_enter Tryz.func53, Tryz.ntmps53
  go_wp2
  go_ret
  exact ⟨rfl, rfl⟩
/-- What tells whether a node of a kind is right. -/
def kindF (a : Int) : Value := if a = 1 then .func (.func 80) #[] #[] else if a = 2 then .func (.func 81) #[] #[] else if a = 3 then .func (.func 82) #[] #[] else if a = 4 then .func (.func 83) #[] #[] else if a = 5 then .func (.func 84) #[] #[] else if a = 6 then .func (.func 85) #[] #[] else if a = 7 then .func (.func 86) #[] #[] else if a = 8 then .func (.func 87) #[] #[] else if a = 9 then .func (.func 88) #[] #[] else if a = 10 then .func (.func 89) #[] #[] else if a = 11 then .func (.func 90) #[] #[] else .nilFunc
theorem zeroFn (w : World) : (zeroValue 106).run Tryz.prog w = .ok .nilFunc w := by kernel_rfl
theorem findEnts (a : Int) : Instr.findNow (.int .i64) (.int .i64 a) (entsN 11).toList 0 = some (if 1 ≤ a ∧ a ≤ 11 then some ((a - 1).toNat, kindF a) else none) := by
  by_cases h : 1 ≤ a ∧ a ≤ 11
  · rw [if_pos h]
    have : a = 1 ∨ a = 2 ∨ a = 3 ∨ a = 4 ∨ a = 5 ∨ a = 6 ∨ a = 7 ∨ a = 8 ∨ a = 9 ∨ a = 10 ∨ a = 11 := by omega
    rcases this with rfl | rfl | rfl | rfl | rfl | rfl | rfl | rfl | rfl | rfl | rfl <;> rfl
  · rw [if_neg h]
    have h1 : ∀ i : Int, 1 ≤ i → i ≤ 11 → (a == i) = false := fun i h1 h2 => by simp; omega
    simp [entsN, ents, Instr.findNow, Instr.sameNow, h1]
theorem run_kind {w : World} {B : Nat} (a : Int) (hb : w.heap[B]? = some (.map (entsN 11) 11)) :
    (Instr.lookup 101 (.map (some B)) (.int .i64 a) true).run Tryz.prog w = .ok (.tuple #[kindF a, .bool (decide (1 ≤ a ∧ a ≤ 11))]) w := by
  have hk : MapKept.IsKey (.int .i64) (.int .i64 a) := rfl
  by_cases h : 1 ≤ a ∧ a ≤ 11
  · have hf := findEnts a
    rw [if_pos h] at hf
    simp [Instr.lookup, run_underlying Tryz.underlying101, MapKept.run_getObj_map hb, MapKept.run_checkKey Tryz.underlying3 hk, MapKept.run_findKey Tryz.underlying3 hf, Result.andThen, h]
  · have hf := findEnts a
    rw [if_neg h] at hf
    have hz : kindF a = .nilFunc := by
      simp only [kindF]
      rw [if_neg (by omega)]
      rw [if_neg (by omega)]
      rw [if_neg (by omega)]
      rw [if_neg (by omega)]
      rw [if_neg (by omega)]
      rw [if_neg (by omega)]
      rw [if_neg (by omega)]
      rw [if_neg (by omega)]
      rw [if_neg (by omega)]
      rw [if_neg (by omega)]
      rw [if_neg (by omega)]
    simp [Instr.lookup, run_underlying Tryz.underlying101, MapKept.run_getObj_map hb, MapKept.run_checkKey Tryz.underlying3 hk, MapKept.run_findKey Tryz.underlying3 hf, Result.andThen, h, hz]
end Go.Proofs.YtppapkpceejnkaaGreatDoor

namespace Go.Proofs.YtppapkpceejnkaaGreatDoor
open Go.RowKit Go.Extern.Stop Go.Stop Go.Extern

theorem isTypeOf (v : Value) (w : World) : (Extern.ReflectliteType.typeOf #[.iface 320 v]).run Tryz.prog w = .ok (.iface 144 (.agg #[.pointer (some ⟨13, 320, none⟩)])) w := by kernel_rfl
theorem callComparable (w : World) : (callFunc 284 #[.agg #[.pointer (some ⟨13, 320, none⟩)]]).run Tryz.prog w = .ok (.value (.bool true)) w := by
  rw [@run_callFunc_extern Tryz.prog 284 _ (Extern.ReflectliteType.method fun t => do Extern.Rtype.noPackHeld "Comparable" t; pure (.bool (← typeInfo t).comparable)) Tryz.func284 (by kernel_rfl) (by kernel_rfl) (by kernel_rfl) (by kernel_rfl)]
  kernel_rfl
theorem callTypeOf (v : Value) (w : World) : (callFunc 57 #[.iface 320 v]).run Tryz.prog w = .ok (.value (.iface 144 (.agg #[.pointer (some ⟨13, 320, none⟩)]))) w := by
  rw [@run_callFunc_extern Tryz.prog 57 _ Extern.ReflectliteType.typeOf Tryz.func57 (by kernel_rfl) (by kernel_rfl) (by kernel_rfl) (by kernel_rfl), isTypeOf]
  rfl
theorem isMethodComparable (v : Value) (w : World) : (Go.method 451 144 v "Comparable").run Tryz.prog w = .ok (284, v) w := by kernel_rfl
theorem isComp : (Tryz.prog.info? 320).map (·.comparable) = some true := by kernel_rfl
theorem isSize : (Tryz.prog.info? 322).map (·.size) = some 1 := by kernel_rfl
theorem noIsE (v : Value) (xT : TypeId) (w : World) : (Instr.typeAssert (.iface 320 v) xT 162 true).run Tryz.prog w = .ok (.tuple #[.nilIface, .bool false]) w := run_typeAssert_lacksB Tryz.underlying162 (by kernel_rfl) (by kernel_rfl) v xT w
theorem noUnwrapE (v : Value) (xT : TypeId) (w : World) : (Instr.typeAssert (.iface 320 v) xT 151 true).run Tryz.prog w = .ok (.tuple #[.nilIface, .bool false]) w := run_typeAssert_lacksB Tryz.underlying151 (by kernel_rfl) (by kernel_rfl) v xT w
theorem noUnwrapsE (v : Value) (xT : TypeId) (w : World) : (Instr.typeAssert (.iface 320 v) xT 153 true).run Tryz.prog w = .ok (.tuple #[.nilIface, .bool false]) w := run_typeAssert_lacksB Tryz.underlying153 (by kernel_rfl) (by kernel_rfl) v xT w
/-- An error that errors.New made. -/
abbrev erV (a : Addr) : Value := .iface 320 (.pointer (some a))
set_option maxRecDepth 100000 in
theorem is_same (a : Addr) (w : World) : Calls Tryz.prog 34 #[erV a, erV a] w fun e w' => e = .returned (.bool true) ∧ w' = w := by
  obtain ⟨i, hi, hcmp⟩ := Option.map_eq_some_iff.1 isComp
  obtain ⟨j, hj, hjs⟩ := Option.map_eq_some_iff.1 isSize
  have h8 := callTypeOf
  have h32 := callComparable
  have mR := isMethodComparable
  have heq := run_eql_iface_ptr_same (P := Tryz.prog) w a Tryz.underlying57 Tryz.underlying320 hi hcmp hj
  go_enter Tryz.func34, Tryz.ntmps34
  go_wp2
  refine wp_loop_rounds 1 ?_
  rw [rounds_succ]
  go_wp2
  go_ret
  exact ⟨rfl, rfl⟩
set_option maxRecDepth 100000 in
theorem is_nil (b : Addr) (w : World) : Calls Tryz.prog 34 #[.nilIface, erV b] w fun e w' => e = .returned (.bool false) ∧ w' = w := by
  have hn := run_eql_iface_nil_left (P := Tryz.prog) w 320 (.pointer (some b)) Tryz.underlying57
  go_enter Tryz.func34, Tryz.ntmps34
  go_wp2
  go_ret
  exact ⟨rfl, rfl⟩
set_option maxRecDepth 100000 in
theorem is_other (a b : Addr) (ca cb : Array Value) (ta tb : TypeId) (w : World) (hne : a ≠ b) (ha : w.heap[a.block]? = some (.cells ca ta (0, 0))) (hb : w.heap[b.block]? = some (.cells cb tb (0, 0))) :
    Calls Tryz.prog 34 #[erV a, erV b] w fun e w' => e = .returned (.bool false) ∧ w' = w := by
  obtain ⟨i, hi, hcmp⟩ := Option.map_eq_some_iff.1 isComp
  obtain ⟨j, hj, hjs⟩ := Option.map_eq_some_iff.1 isSize
  have h8 := callTypeOf
  have h32 := callComparable
  have mR := isMethodComparable
  have nE := noIsE
  have uE := noUnwrapE
  have vE := noUnwrapsE
  have heq := run_eql_iface_ptr_other (P := Tryz.prog) w Tryz.underlying57 Tryz.underlying320 hi hcmp hj (by rw [hjs]; decide) hne ha hb
  go_enter Tryz.func34, Tryz.ntmps34
  go_wp2
  refine wp_loop_rounds 1 ?_
  rw [rounds_succ]
  go_wp2
  go_ret
  exact ⟨rfl, rfl⟩
/-- The errors of tree. -/
structure Te (w : World) (aT aF : Addr) : Prop where
  t : w.cell? ⟨0, 0, none⟩ = some (erV aT)
  f : w.cell? ⟨1, 0, none⟩ = some (erV aF)
  ne : aF ≠ aT
  bt : ∃ cs T, w.heap[aT.block]? = some (.cells cs T (0, 0))
  bf : ∃ cs T, w.heap[aF.block]? = some (.cells cs T (0, 0))
theorem Te.below {w w' : World} {aT aF : Addr} (h : Te w aT aF) (hb : Below w.heap.size w w') : Te w' aT aF := by
  obtain ⟨h1, h2, h3, ⟨c1, t1, h4⟩, ⟨c2, t2, h5⟩⟩ := h
  exact ⟨(hb.cell (p := ⟨0, 0, none⟩) (lt_of_cell0 h1)).trans h1, (hb.cell (p := ⟨1, 0, none⟩) (lt_of_cell0 h2)).trans h2, h3, ⟨c1, t1, (hb.block _ (Array.getElem?_eq_some_iff.1 h4).1).trans h4⟩, ⟨c2, t2, (hb.block _ (Array.getElem?_eq_some_iff.1 h5).1).trans h5⟩⟩
end Go.Proofs.YtppapkpceejnkaaGreatDoor
