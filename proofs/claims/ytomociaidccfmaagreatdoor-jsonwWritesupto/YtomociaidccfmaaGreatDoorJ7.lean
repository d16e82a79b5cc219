/- What writes an array, a map, a node; a writer made. -/
import Derived.Test.YtomociaidccfmaaGreatDoorJ6
namespace Go.Proofs.YtomociaidccfmaaGreatDoor
open Go.RowKit

section
variable {w0 W : World} {b M : Nat} {L : Lay} {i Z n : Nat} {t : ByteArray}
theorem inner_le {h : Hd} {k : Fo} (h7 : h.kind = 7 ∨ h.kind = 8) (hZ : (nodeB L i h k).size ≤ Z) : (docs L k (i + 1) (h.kind == 8) false).size ≤ Z := by
  cases k with
  | nil => exact Nat.zero_le _
  | cons a b c =>
    rw [nodeB, wrapB] at hZ
    rcases h7 with e | e
    · rw [if_pos e, ByteArray.size_append, ByteArray.size_append, innB, if_neg (by simp [Fo.isNil]), ByteArray.size_append, ByteArray.size_append] at hZ
      omega
    · rw [if_neg (by omega), if_pos e, ByteArray.size_append, ByteArray.size_append, innB, if_neg (by simp [Fo.isNil]), ByteArray.size_append, ByteArray.size_append] at hZ
      omega
set_option maxRecDepth 100000 in
theorem array_calls (hL : L.ok) (hN : NodeOk w0 b M L Z n) {h : Hd} {k : Fo} {v : Value} (h7 : h.kind = 7) (hc : k.cnt ≤ n) (hw : Wr w0 b M L i t W) (hk : Kd An w0 v k) (hG : AllG Gj k) (hlen : k.len ≤ 300) (hZ : (nodeB L i h k).size ≤ Z) (ht : t.size + (k.deep + 2) * (302 * Z + 300) ≤ 1000000000000) (hi : i + k.deep ≤ 40) :
    Calls Tryz.prog 32 #[.pointer (some ⟨b, 0, none⟩), .agg (h.cells v)] W (PutP w0 b M L i (t ++ nodeB L i h k) W) := by
  have hne : nodeB L i h k = ⟨#[91]⟩ ++ innB L i k.isNil (docs L k (i + 1) false false) ++ ⟨#[93]⟩ := by rw [nodeB, wrapB, if_pos h7, h7]; rfl
  have hd := inner_le (.inl h7) hZ
  rw [show (h.kind == 8) = false by rw [h7]; rfl] at hd
  have hlb := hw.lt
  have HL := Lib.hid (list_calls hL hN k v i t ⟨#[91]⟩ ⟨#[93]⟩ false (W.heap.size + 1) ((W.alloc (.cells (h.cells v) 27)).alloc (.cells #[.string ⟨#[44]⟩] 9)) hc ((hw.alloc _).alloc _) hk hG hlen rfl rfl (Bx.new1 _ _ _ _) (by omega) hd (by have : (k.deep + 2) * (302 * Z + 300) = (k.deep + 1) * (302 * Z + 300) + (302 * Z + 300) := Nat.succ_mul _ _; omega) hi)
  rw [← hne, show marksN false = 1 from rfl] at HL
  have HK : Hid (∀ o o', Ok w0 b W ((W.alloc o).alloc o')) := Lib.hid (fun o o' => (Ok.refl.alloc hw.base o).alloc (hw.alloc o).base o')
  have HX := Lib.hid (Nx.new W h v)
  obtain ⟨A, c, rfl, _, _, _⟩ := hk.form
  obtain ⟨q0, q1, q2, q3, q4, q5, q6, q7, q8⟩ := HX.out.nine
  obtain ⟨N, hN2⟩ : ∃ N, N = nodeB L i h k := ⟨_, rfl⟩
  rw [← hN2] at HL ⊢
  clear h7 hne hd hZ hN2 hN hw hk hG hlb
  simp only [Hd.cells] at HL ⊢
  go_enter Tryz.func32, Tryz.ntmps32
  go_wp2_with fail
  refine HL.out.mono ?_
  rintro o w2 ⟨rfl, h2, hk2⟩
  have H2 := Lib.hid h2
  have HK2 := Lib.hid ((HK.out _ _).trans hk2)
  clear h2 hk2 q0 q1 q2 q3 q4 q5 q6 q7 q8
  go_wp2
  go_end0
  exact ⟨rfl, H2.out, HK2.out⟩
set_option maxRecDepth 100000 in
theorem members_calls (hL : L.ok) (hN : NodeOk w0 b M L Z n) {h : Hd} {k : Fo} {v : Value} (h8 : h.kind = 8) (hc : k.cnt ≤ n) (hw : Wr w0 b M L i t W) (hk : Kd An w0 v k) (hG : AllG Gj k) (hlen : k.len ≤ 300) (hZ : (nodeB L i h k).size ≤ Z) (ht : t.size + (k.deep + 2) * (302 * Z + 300) ≤ 1000000000000) (hi : i + k.deep ≤ 40) :
    Calls Tryz.prog 33 #[.pointer (some ⟨b, 0, none⟩), .agg (h.cells v)] W (PutP w0 b M L i (t ++ nodeB L i h k) W) := by
  have hne : nodeB L i h k = ⟨#[123]⟩ ++ innB L i k.isNil (docs L k (i + 1) true false) ++ ⟨#[125]⟩ := by rw [nodeB, wrapB, if_neg (by omega), if_pos h8, h8]; rfl
  have hd := inner_le (.inr h8) hZ
  rw [show (h.kind == 8) = true by rw [h8]; rfl] at hd
  have hlb := hw.lt
  have HL := Lib.hid (list_calls hL hN k v i t ⟨#[123]⟩ ⟨#[125]⟩ true (W.heap.size + 1) ((W.alloc (.cells (h.cells v) 27)).alloc (.cells #[.string ⟨#[58]⟩, .string ⟨#[44]⟩] 9)) hc ((hw.alloc _).alloc _) hk hG hlen rfl rfl (Bx.new1 _ _ _ _) (by omega) hd (by have : (k.deep + 2) * (302 * Z + 300) = (k.deep + 1) * (302 * Z + 300) + (302 * Z + 300) := Nat.succ_mul _ _; omega) hi)
  rw [← hne, show marksN true = 2 from rfl] at HL
  have HK : Hid (∀ o o', Ok w0 b W ((W.alloc o).alloc o')) := Lib.hid (fun o o' => (Ok.refl.alloc hw.base o).alloc (hw.alloc o).base o')
  have HX := Lib.hid (Nx.new W h v)
  obtain ⟨A, c, rfl, _, _, _⟩ := hk.form
  obtain ⟨q0, q1, q2, q3, q4, q5, q6, q7, q8⟩ := HX.out.nine
  obtain ⟨N, hN2⟩ : ∃ N, N = nodeB L i h k := ⟨_, rfl⟩
  rw [← hN2] at HL ⊢
  clear h8 hne hd hZ hN2 hN hw hk hG hlb
  simp only [Hd.cells] at HL ⊢
  go_enter Tryz.func33, Tryz.ntmps33
  go_wp2_with fail
  refine HL.out.mono ?_
  rintro o w2 ⟨rfl, h2, hk2⟩
  have H2 := Lib.hid h2
  have HK2 := Lib.hid ((HK.out _ _).trans hk2)
  clear h2 hk2 q0 q1 q2 q3 q4 q5 q6 q7 q8
  go_wp2
  go_end0
  exact ⟨rfl, H2.out, HK2.out⟩
theorem node_all (hL : L.ok) (hT : Tab w0) (hZb : Z ≤ 100000000) : ∀ n, NodeOk w0 b M L Z n
  | 0 => fun _ _ _ _ _ _ h => by omega
  | n + 1 => by
    intro h k v i t W hc hw hk hu hG hZ ht hi
    have IH := node_all hL hT hZb n
    have hpos : 302 * Z + 300 ≤ (k.deep + 2) * (302 * Z + 300) := Nat.le_mul_of_pos_left _ (by omega)
    have hg := hG.1
    refine node_walk (hd := h) (v := v) (x := t ++ nodeB L i h k) (by unfold isPart; rcases hg.1 with e | e | e | e | e | e <;> omega) hw (fun W' hok hw' => ?_)
    have ht' : t.size ≤ 1000000000000 := by omega
    have leaf : h.kind ≠ 7 → h.kind ≠ 8 → nodeB L i h k = leafB h := fun h7 h8 => by rw [nodeB, wrapB, if_neg h7, if_neg h8]
    rcases hg.1 with e | e | ⟨e, er⟩ | ⟨e, eu, es⟩ | e | e
    · rw [leaf (by omega) (by omega), leafB, if_pos e, partF, if_pos e]
      exact null_calls h v hw' ht'
    · rw [leaf (by omega) (by omega), leafB, if_neg (by omega), if_pos e, partF, if_neg (by omega), if_pos e]
      exact truth_calls h v hw' ht'
    · rw [leaf (by omega) (by omega), leafB, if_neg (by omega), if_neg (by omega), if_pos e] at hZ ⊢
      rw [partF, if_neg (by omega), if_neg (by omega), if_pos e]
      exact number_calls h v hw' hT er (by omega)
    · rw [leaf (by omega) (by omega), leafB, if_neg (by omega), if_neg (by omega), if_neg (by omega)] at hZ ⊢
      rw [partF, if_neg (by omega), if_neg (by omega), if_neg (by omega), if_pos e]
      exact quotation_calls h v hw' eu es (by omega)
    · rw [partF, if_neg (by omega), if_neg (by omega), if_neg (by omega), if_neg (by omega), if_pos e]
      exact array_calls hL IH e (by omega) hw' hk hG.2.1 hg.2 hZ ht hi
    · rw [partF, if_neg (by omega), if_neg (by omega), if_neg (by omega), if_neg (by omega), if_neg (by omega)]
      exact members_calls hL IH e (by omega) hw' hk hG.2.1 hg.2 hZ ht hi
end
theorem updP {w : World} {es : Array MapEntry} {clock : Nat} {a : Int} {v : Value} (h : Instr.findNow (.int .i64) (.int .i64 a) es.toList 0 = some none) :
    (Instr.mapUpdate 53 (.map (some w.heap.size)) (.int .i64 a) v).run Tryz.prog (w.alloc (.map es clock)) = .ok () (w.alloc (.map (es.push { key := .int .i64 a, val := v, born := clock }) (clock + 1))) := by
  have hk : MapKept.IsKey (.int .i64) (.int .i64 a) := rfl
  have hb : (w.alloc (.map es clock)).heap[w.heap.size]? = some (.map es clock) := heap_alloc_new w _
  simp [Instr.mapUpdate, run_underlying Tryz.underlying53, MapKept.run_getObj_map hb, MapKept.run_checkKey Tryz.underlying3 hk, MapKept.run_findKey Tryz.underlying3 h, MapKept.run_setObj_map _ hb, Result.andThen]
  have e : (w.alloc (.map es clock)).heap.setIfInBounds w.heap.size (.map (es.push { key := .int .i64 a, val := v, born := clock }) (clock + 1)) = (w.alloc (.map (es.push { key := .int .i64 a, val := v, born := clock }) (clock + 1))).heap := by
    show (w.heap.push _).setIfInBounds w.heap.size _ = w.heap.push _
    apply Array.toList_inj.1
    simp
  rw [e]
  rfl
set_option maxRecDepth 100000 in
theorem newWriter_calls (L : Lay) (W : World) : Calls Tryz.prog 17 #[.agg #[.string L.e, .string L.d, .string L.k]] W fun o w' => ∃ b M, o = .returned (.pointer (some ⟨b, 0, none⟩)) ∧ Wr W b M L ((0 : Nat) : Int) ⟨#[]⟩ w' := by
  have hmm := @run_makeMap Tryz.prog
  have hmf : ∀ (fn : Fn) (first cap : Array Value) (w : World), (Instr.makeFunc fn first cap).run Tryz.prog w = .ok (.func fn first cap) w := fun _ _ _ _ => rfl
  have hXs : ((W.alloc (.cells #[.string L.e, .string L.d, .string L.k] 40)).alloc (.cells #[.pointer none, .slice none 0 0, .string L.e, .string L.d, .string L.k, .int .i64 0, .map none] 55)).heap.size = W.heap.size + 1 + 1 := by simp
  have u0 : (Instr.mapUpdate 53 (.map (some (W.heap.size + 1 + 1))) (.int .i64 1) (.func (.func 28) #[.pointer (some ⟨W.heap.size + 1, 0, none⟩)] #[])).run Tryz.prog (((W.alloc (.cells #[.string L.e, .string L.d, .string L.k] 40)).alloc (.cells #[.pointer none, .slice none 0 0, .string L.e, .string L.d, .string L.k, .int .i64 0, .map none] 55)).alloc (.map #[] 0)) = .ok () (((W.alloc (.cells #[.string L.e, .string L.d, .string L.k] 40)).alloc (.cells #[.pointer none, .slice none 0 0, .string L.e, .string L.d, .string L.k, .int .i64 0, .map none] 55)).alloc (.map (partsN (W.heap.size + 1) 1) 1)) := by
    have := updP (w := ((W.alloc (.cells #[.string L.e, .string L.d, .string L.k] 40)).alloc (.cells #[.pointer none, .slice none 0 0, .string L.e, .string L.d, .string L.k, .int .i64 0, .map none] 55))) (es := #[]) (clock := 0) (a := 1) (v := .func (.func 28) #[.pointer (some ⟨W.heap.size + 1, 0, none⟩)] #[]) (by rfl)
    rw [hXs] at this
    exact this
  have u1 : (Instr.mapUpdate 53 (.map (some (W.heap.size + 1 + 1))) (.int .i64 2) (.func (.func 29) #[.pointer (some ⟨W.heap.size + 1, 0, none⟩)] #[])).run Tryz.prog (((W.alloc (.cells #[.string L.e, .string L.d, .string L.k] 40)).alloc (.cells #[.pointer none, .slice none 0 0, .string L.e, .string L.d, .string L.k, .int .i64 0, .map none] 55)).alloc (.map (partsN (W.heap.size + 1) 1) 1)) = .ok () (((W.alloc (.cells #[.string L.e, .string L.d, .string L.k] 40)).alloc (.cells #[.pointer none, .slice none 0 0, .string L.e, .string L.d, .string L.k, .int .i64 0, .map none] 55)).alloc (.map (partsN (W.heap.size + 1) 2) 2)) := by
    have := updP (w := ((W.alloc (.cells #[.string L.e, .string L.d, .string L.k] 40)).alloc (.cells #[.pointer none, .slice none 0 0, .string L.e, .string L.d, .string L.k, .int .i64 0, .map none] 55))) (es := partsN (W.heap.size + 1) 1) (clock := 1) (a := 2) (v := .func (.func 29) #[.pointer (some ⟨W.heap.size + 1, 0, none⟩)] #[]) (by rfl)
    rw [hXs] at this
    exact this
  have u2 : (Instr.mapUpdate 53 (.map (some (W.heap.size + 1 + 1))) (.int .i64 3) (.func (.func 30) #[.pointer (some ⟨W.heap.size + 1, 0, none⟩)] #[])).run Tryz.prog (((W.alloc (.cells #[.string L.e, .string L.d, .string L.k] 40)).alloc (.cells #[.pointer none, .slice none 0 0, .string L.e, .string L.d, .string L.k, .int .i64 0, .map none] 55)).alloc (.map (partsN (W.heap.size + 1) 2) 2)) = .ok () (((W.alloc (.cells #[.string L.e, .string L.d, .string L.k] 40)).alloc (.cells #[.pointer none, .slice none 0 0, .string L.e, .string L.d, .string L.k, .int .i64 0, .map none] 55)).alloc (.map (partsN (W.heap.size + 1) 3) 3)) := by
    have := updP (w := ((W.alloc (.cells #[.string L.e, .string L.d, .string L.k] 40)).alloc (.cells #[.pointer none, .slice none 0 0, .string L.e, .string L.d, .string L.k, .int .i64 0, .map none] 55))) (es := partsN (W.heap.size + 1) 2) (clock := 2) (a := 3) (v := .func (.func 30) #[.pointer (some ⟨W.heap.size + 1, 0, none⟩)] #[]) (by rfl)
    rw [hXs] at this
    exact this
  have u3 : (Instr.mapUpdate 53 (.map (some (W.heap.size + 1 + 1))) (.int .i64 5) (.func (.func 31) #[.pointer (some ⟨W.heap.size + 1, 0, none⟩)] #[])).run Tryz.prog (((W.alloc (.cells #[.string L.e, .string L.d, .string L.k] 40)).alloc (.cells #[.pointer none, .slice none 0 0, .string L.e, .string L.d, .string L.k, .int .i64 0, .map none] 55)).alloc (.map (partsN (W.heap.size + 1) 3) 3)) = .ok () (((W.alloc (.cells #[.string L.e, .string L.d, .string L.k] 40)).alloc (.cells #[.pointer none, .slice none 0 0, .string L.e, .string L.d, .string L.k, .int .i64 0, .map none] 55)).alloc (.map (partsN (W.heap.size + 1) 4) 4)) := by
    have := updP (w := ((W.alloc (.cells #[.string L.e, .string L.d, .string L.k] 40)).alloc (.cells #[.pointer none, .slice none 0 0, .string L.e, .string L.d, .string L.k, .int .i64 0, .map none] 55))) (es := partsN (W.heap.size + 1) 3) (clock := 3) (a := 5) (v := .func (.func 31) #[.pointer (some ⟨W.heap.size + 1, 0, none⟩)] #[]) (by rfl)
    rw [hXs] at this
    exact this
  have u4 : (Instr.mapUpdate 53 (.map (some (W.heap.size + 1 + 1))) (.int .i64 7) (.func (.func 32) #[.pointer (some ⟨W.heap.size + 1, 0, none⟩)] #[])).run Tryz.prog (((W.alloc (.cells #[.string L.e, .string L.d, .string L.k] 40)).alloc (.cells #[.pointer none, .slice none 0 0, .string L.e, .string L.d, .string L.k, .int .i64 0, .map none] 55)).alloc (.map (partsN (W.heap.size + 1) 4) 4)) = .ok () (((W.alloc (.cells #[.string L.e, .string L.d, .string L.k] 40)).alloc (.cells #[.pointer none, .slice none 0 0, .string L.e, .string L.d, .string L.k, .int .i64 0, .map none] 55)).alloc (.map (partsN (W.heap.size + 1) 5) 5)) := by
    have := updP (w := ((W.alloc (.cells #[.string L.e, .string L.d, .string L.k] 40)).alloc (.cells #[.pointer none, .slice none 0 0, .string L.e, .string L.d, .string L.k, .int .i64 0, .map none] 55))) (es := partsN (W.heap.size + 1) 4) (clock := 4) (a := 7) (v := .func (.func 32) #[.pointer (some ⟨W.heap.size + 1, 0, none⟩)] #[]) (by rfl)
    rw [hXs] at this
    exact this
  have u5 : (Instr.mapUpdate 53 (.map (some (W.heap.size + 1 + 1))) (.int .i64 8) (.func (.func 33) #[.pointer (some ⟨W.heap.size + 1, 0, none⟩)] #[])).run Tryz.prog (((W.alloc (.cells #[.string L.e, .string L.d, .string L.k] 40)).alloc (.cells #[.pointer none, .slice none 0 0, .string L.e, .string L.d, .string L.k, .int .i64 0, .map none] 55)).alloc (.map (partsN (W.heap.size + 1) 5) 5)) = .ok () (((W.alloc (.cells #[.string L.e, .string L.d, .string L.k] 40)).alloc (.cells #[.pointer none, .slice none 0 0, .string L.e, .string L.d, .string L.k, .int .i64 0, .map none] 55)).alloc (.map (partsN (W.heap.size + 1) 6) 6)) := by
    have := updP (w := ((W.alloc (.cells #[.string L.e, .string L.d, .string L.k] 40)).alloc (.cells #[.pointer none, .slice none 0 0, .string L.e, .string L.d, .string L.k, .int .i64 0, .map none] 55))) (es := partsN (W.heap.size + 1) 5) (clock := 5) (a := 8) (v := .func (.func 33) #[.pointer (some ⟨W.heap.size + 1, 0, none⟩)] #[]) (by rfl)
    rw [hXs] at this
    exact this
  obtain ⟨W5, hW5⟩ : ∃ W5, W5 = ((W.alloc (.cells #[.string L.e, .string L.d, .string L.k] 40)).alloc (.cells #[.pointer none, .slice none 0 0, .string L.e, .string L.d, .string L.k, .int .i64 0, .map none] 55)).alloc (.map (partsN (W.heap.size + 1) 6) 6) := ⟨_, rfl⟩
  have HB : Hid (Bx W5 (W.heap.size + 1) (wcs (.pointer none) (.slice none 0 0) L 0 (.map none)) 55) := Lib.hid (by rw [hW5]; exact (Bx.new1 W _ _ _).alloc _)
  have HM : Hid (W5.heap[W.heap.size + 1 + 1]? = some (.map (partsN (W.heap.size + 1) 6) 6)) := Lib.hid (by rw [hW5, ← hXs]; exact heap_alloc_new _ _)
  have HBl : Hid (Below W.heap.size W W5) := Lib.hid (by rw [hW5]; exact below_a (below_a (below_a (Below.refl _ _) _) _) _)
  rw [← hW5] at u5
  have g6 : W5.cell? ⟨W.heap.size + 1, 6, none⟩ = some (.map none) := HB.out.c 6 rfl
  have f6 := HB.out.f 6
  clear hW5
  go_enter Tryz.func17, Tryz.ntmps17
  go_wp2
  go_ret
  refine ⟨_, W.heap.size + 1 + 1, rfl, ?_, _, _, .inl rfl, ⟨by omega, HBl.out.setCell (p := ⟨W.heap.size + 1, 6, none⟩) (by show W.heap.size ≤ W.heap.size + 1; omega) _, HB.out.set 6 _, World.ownsRow_nil _ _ _ _⟩⟩
  exact (Below.heap_setCell _ ⟨W.heap.size + 1, 6, none⟩ _ _ (by show W.heap.size + 1 + 1 ≠ W.heap.size + 1; omega)).trans HM.out
end Go.Proofs.YtomociaidccfmaaGreatDoor
