/- What writes a node that has no list; what finds the part for a node. -/
import Derived.Test.YtomociaidccfmaaGreatDoorJD
import Derived.Test.YtomociaidccfmaaGreatDoorNa
namespace Go.Proofs.YtomociaidccfmaaGreatDoor
open Go.RowKit

section
variable {w0 W : World} {b M : Nat} {L : Lay} {i : Int} {t : ByteArray}
set_option maxRecDepth 100000 in
theorem null_calls (hd : Hd) (v : Value) (h : Wr w0 b M L i t W) (hlen : t.size ≤ 1000000000000) :
    Calls Tryz.prog 28 #[.pointer (some ⟨b, 0, none⟩), .agg (hd.cells v)] W (PutP w0 b M L i (t ++ nullB) W) := by
  have H := Lib.hid h
  have HK : Hid (∀ o o', Ok w0 b W ((W.alloc o).alloc o')) := Lib.hid (fun o o' => (Ok.refl.alloc h.base o).alloc (h.alloc o).base o')
  clear h
  simp only [Hd.cells]
  go_enter Tryz.func28, Tryz.ntmps28
  go_wp2_with fail
  refine ((put1_both nullB _ ((H.out.alloc _).alloc _) (Bx.new1 _ _ _ _) (by rw [show nullB.size = 4 from rfl]; omega)).1).mono ?_
  rintro o w2 ⟨rfl, h2, hk2⟩
  have H2 := Lib.hid h2
  have HK2 := Lib.hid ((HK.out _ _).trans hk2)
  clear h2 hk2
  go_wp2
  go_end0
  exact ⟨rfl, H2.out, HK2.out⟩
set_option maxRecDepth 100000 in
theorem truth_calls (hd : Hd) (v : Value) (h : Wr w0 b M L i t W) (hlen : t.size ≤ 1000000000000) :
    Calls Tryz.prog 29 #[.pointer (some ⟨b, 0, none⟩), .agg (hd.cells v)] W (PutP w0 b M L i (t ++ truthB hd.b) W) := by
  have H := Lib.hid h
  have HK : Hid (∀ o o', Ok w0 b W ((W.alloc o).alloc o')) := Lib.hid (fun o o' => (Ok.refl.alloc h.base o).alloc (h.alloc o).base o')
  clear h
  obtain ⟨kd, bb, neg, dig, exp, u, wd, s⟩ := hd
  simp only [Hd.cells]
  cases bb with
  | true =>
    go_enter Tryz.func29, Tryz.ntmps29
    go_wp2_with fail
    refine ((put1_both (truthB true) _ ((H.out.alloc _).alloc _) (Bx.new1 _ _ _ _) (by rw [show (truthB true).size = 4 from rfl]; omega)).1).mono ?_
    rintro o w2 ⟨rfl, h2, hk2⟩
    have H2 := Lib.hid h2
    have HK2 := Lib.hid ((HK.out _ _).trans hk2)
    clear h2 hk2
    go_wp2
    refine bodyPost_ret (results_none rfl _ _ _) rfl ?_
    exact ⟨rfl, H2.out, HK2.out⟩
  | false =>
    go_enter Tryz.func29, Tryz.ntmps29
    go_wp2_with fail
    refine ((put1_both (truthB false) _ ((H.out.alloc _).alloc _) (Bx.new1 _ _ _ _) (by rw [show (truthB false).size = 5 from rfl]; omega)).1).mono ?_
    rintro o w2 ⟨rfl, h2, hk2⟩
    have H2 := Lib.hid h2
    have HK2 := Lib.hid ((HK.out _ _).trans hk2)
    clear h2 hk2
    go_wp2
    go_end0
    exact ⟨rfl, H2.out, HK2.out⟩
set_option maxRecDepth 100000 in
theorem number_calls (hd : Hd) (v : Value) (h : Wr w0 b M L i t W) (hT : Tab w0) (hr : rightD hd.neg hd.dig.data.toList hd.exp = true) (hlen : t.size + (sgnB hd.neg (fmtB hd.dig hd.exp)).size ≤ 1099511627776) :
    Calls Tryz.prog 30 #[.pointer (some ⟨b, 0, none⟩), .agg (hd.cells v)] W (PutP w0 b M L i (t ++ sgnB hd.neg (fmtB hd.dig hd.exp)) W) := by
  obtain ⟨kd, bb, neg, dig, exp, u, wd, s⟩ := hd
  dsimp only at hr hlen ⊢
  obtain ⟨F, hF⟩ : ∃ F, F = sgnB neg (fmtB dig exp) := ⟨_, rfl⟩
  have HF : Hid (∀ w, Tab w → Calls Tryz.prog 52 #[.agg #[.bool neg, .string dig, .int .i64 exp]] w fun o w' => o = .returned (.tuple #[.string F, .int .i64 0]) ∧ Below w.heap.size w w') := Lib.hid (fun w hw => by
    refine (pFormat_calls neg dig exp w hw).mono ?_
    rintro o w' ⟨rfl, hb⟩
    exact ⟨by rw [fS, fE, if_pos hr, if_pos hr, hF], hb⟩)
  rw [← hF] at hlen ⊢
  have HX := Lib.hid (Nx.new W ⟨kd, bb, neg, dig, exp, u, wd, s⟩ v)
  have H1 := Lib.hid (h.alloc (.cells ((⟨kd, bb, neg, dig, exp, u, wd, s⟩ : Hd).cells v) 27))
  have HK1 : Hid (∀ o, Ok w0 b W (W.alloc o)) := Lib.hid (fun o => Ok.refl.alloc h.base o)
  have HTb := Lib.hid hT
  obtain ⟨q0, q1, q2, q3, q4, q5, q6, q7, q8⟩ := HX.out.nine
  clear hF hr h hT
  simp only [Hd.cells] at H1 ⊢
  go_enter Tryz.func30, Tryz.ntmps30
  go_wp2_with fail
  refine (HF.out _ (HTb.out.below H1.out.hw)).mono ?_
  rintro o w1 ⟨rfl, hb1⟩
  have H2 := Lib.hid (H1.out.below hb1)
  have HK2 : Hid (Ok w0 b W w1) := Lib.hid ((HK1.out _).trans (Ok.of_below hb1 H1.out.base))
  clear hb1 q0 q1 q2 q3 q4 q5 q6 q7 q8
  go_wp2_with fail
  refine ((put1_both F _ (H2.out.alloc _) (Bx.new _ _ _) hlen).1).mono ?_
  rintro o w2 ⟨rfl, h2, hk2⟩
  have H3 := Lib.hid h2
  have HK3 := Lib.hid ((HK2.out.alloc H2.out.base _).trans hk2)
  clear h2 hk2
  go_wp2
  go_end0
  exact ⟨rfl, H3.out, HK3.out⟩
set_option maxRecDepth 100000 in
theorem quotation_calls (hd : Hd) (v : Value) (h : Wr w0 b M L i t W) (hu : utfW hd.s 0 = true) (hs : hd.s.size ≤ 400) (hlen : t.size + (quoteB hd.s).size ≤ 1099511627776) :
    Calls Tryz.prog 31 #[.pointer (some ⟨b, 0, none⟩), .agg (hd.cells v)] W (PutP w0 b M L i (t ++ quoteB hd.s) W) := by
  obtain ⟨kd, bb, neg, dig, exp, u, wd, s⟩ := hd
  dsimp only at hu hs hlen ⊢
  have HF : Hid (∀ w, Calls Tryz.prog 53 #[.string s] w fun o w' => o = .returned (.tuple #[.string (quoteB s), .int .i64 0]) ∧ Below w.heap.size w w') := Lib.hid (fun w => Quote_yes s w hu (by omega))
  have HX := Lib.hid (Nx.new W ⟨kd, bb, neg, dig, exp, u, wd, s⟩ v)
  have H1 := Lib.hid (h.alloc (.cells ((⟨kd, bb, neg, dig, exp, u, wd, s⟩ : Hd).cells v) 27))
  have HK1 : Hid (∀ o, Ok w0 b W (W.alloc o)) := Lib.hid (fun o => Ok.refl.alloc h.base o)
  obtain ⟨q0, q1, q2, q3, q4, q5, q6, q7, q8⟩ := HX.out.nine
  obtain ⟨F, hF⟩ : ∃ F, F = quoteB s := ⟨_, rfl⟩
  rw [← hF] at HF hlen ⊢
  clear hF h hu hs
  simp only [Hd.cells] at H1 ⊢
  go_enter Tryz.func31, Tryz.ntmps31
  go_wp2_with fail
  refine (HF.out _).mono ?_
  rintro o w1 ⟨rfl, hb1⟩
  have H2 := Lib.hid (H1.out.below hb1)
  have HK2 : Hid (Ok w0 b W w1) := Lib.hid ((HK1.out _).trans (Ok.of_below hb1 H1.out.base))
  clear hb1 q0 q1 q2 q3 q4 q5 q6 q7 q8
  go_wp2_with fail
  refine ((put1_both F _ (H2.out.alloc _) (Bx.new _ _ _) hlen).1).mono ?_
  rintro o w2 ⟨rfl, h2, hk2⟩
  have H3 := Lib.hid h2
  have HK3 := Lib.hid ((HK2.out.alloc H2.out.base _).trans hk2)
  clear h2 hk2
  go_wp2
  go_end0
  exact ⟨rfl, H3.out, HK3.out⟩
/-- The part for a kind. -/
def partF (a : Int) : Nat := if a = 1 then 28 else if a = 2 then 29 else if a = 3 then 30 else if a = 5 then 31 else if a = 7 then 32 else 33
def isPart (a : Int) : Prop := a = 1 ∨ a = 2 ∨ a = 3 ∨ a = 5 ∨ a = 7 ∨ a = 8
def partI (a : Int) : Nat := if a = 1 then 0 else if a = 2 then 1 else if a = 3 then 2 else if a = 5 then 3 else if a = 7 then 4 else 5
theorem findPart {a : Int} (h : isPart a) : Instr.findNow (.int .i64) (.int .i64 a) (partsN b 6).toList 0 = some (some (partI a, .func (.func (partF a)) #[.pointer (some ⟨b, 0, none⟩)] #[])) := by
  rcases h with rfl | rfl | rfl | rfl | rfl | rfl <;> rfl
theorem run_part {W : World} {a : Int} (hb : W.heap[M]? = some (.map (partsN b 6) 6)) (h : isPart a) :
    (Instr.lookup 53 (.map (some M)) (.int .i64 a) false).run Tryz.prog W = .ok (.func (.func (partF a)) #[.pointer (some ⟨b, 0, none⟩)] #[]) W := by
  have hk : MapKept.IsKey (.int .i64) (.int .i64 a) := rfl
  simp [Instr.lookup, run_underlying Tryz.underlying53, MapKept.run_getObj_map hb, MapKept.run_checkKey Tryz.underlying3 hk, MapKept.run_findKey Tryz.underlying3 (findPart h), Result.andThen]
theorem enters_part {a : Int} (h : isPart a) : ∀ args w, (callFunc (partF a) args).run Tryz.prog w = .ok (.enter (partF a) args) w := by
  rcases h with rfl | rfl | rfl | rfl | rfl | rfl
  · exact enters_of Tryz.func28 (by kernel_rfl) rfl
  · exact enters_of Tryz.func29 (by kernel_rfl) rfl
  · exact enters_of Tryz.func30 (by kernel_rfl) rfl
  · exact enters_of Tryz.func31 (by kernel_rfl) rfl
  · exact enters_of Tryz.func32 (by kernel_rfl) rfl
  · exact enters_of Tryz.func33 (by kernel_rfl) rfl
set_option maxRecDepth 100000 in
set_option maxHeartbeats 1000000 in
theorem node_walk {hd : Hd} {v : Value} {x : ByteArray} (hp : isPart hd.kind) (h : Wr w0 b M L i t W)
    (hC : ∀ W', Ok w0 b W W' → Wr w0 b M L i t W' → Calls Tryz.prog (partF hd.kind) #[.pointer (some ⟨b, 0, none⟩), .agg (hd.cells v)] W' (PutP w0 b M L i x W')) :
    Calls Tryz.prog 18 #[.pointer (some ⟨b, 0, none⟩), .agg (hd.cells v)] W (PutP w0 b M L i x W) := by
  have hef := enters_part hp
  have HX := Lib.hid (Nx.new W hd v)
  have H1 := Lib.hid (h.alloc (.cells (hd.cells v) 27))
  have HK1 : Hid (Ok w0 b W (W.alloc (.cells (hd.cells v) 27))) := Lib.hid (Ok.refl.alloc h.base _)
  have HLt := Lib.hid h.lt
  have hlk := run_part (W := (W.alloc (.cells (hd.cells v) 27)).drew) H1.out.drew.1 hp
  obtain ⟨f, hf⟩ : ∃ f, f = partF hd.kind := ⟨_, rfl⟩
  rw [← hf] at hef hlk hC
  have HC : Hid (∀ W', Ok w0 b W W' → Wr w0 b M L i t W' → Calls Tryz.prog f #[.pointer (some ⟨b, 0, none⟩), .agg (hd.cells v)] W' (PutP w0 b M L i x W')) := Lib.hid hC
  obtain ⟨q0, q1, q2, q3, q4, q5, q6, q7, q8⟩ := HX.out.nine
  obtain ⟨_, _, _, _, x6⟩ := H1.out.held
  clear hf hC hp h
  obtain ⟨kd, bb, neg, dig, exp, u, wd, s⟩ := hd
  simp only [Hd.cells] at H1 HK1 HC hlk q0 q1 q2 q3 q4 q5 q6 q7 q8 x6 ⊢
  go_enter Tryz.func18, Tryz.ntmps18
  go_wp2_with fail
  go_region_held3 (fun w' => w'.cell? ⟨b, 6, none⟩ = some (.map (some M)) ∧ w'.cell? ⟨W.heap.size, 0, none⟩ = some (.int .i64 kd) ∧ w'.cell? ⟨W.heap.size, 1, none⟩ = some (.bool bb) ∧ w'.cell? ⟨W.heap.size, 2, none⟩ = some (.bool neg) ∧ w'.cell? ⟨W.heap.size, 3, none⟩ = some (.string dig) ∧ w'.cell? ⟨W.heap.size, 4, none⟩ = some (.int .i64 exp) ∧ w'.cell? ⟨W.heap.size, 5, none⟩ = some (.int .u64 (u : Int)) ∧ w'.cell? ⟨W.heap.size, 6, none⟩ = some (.int .i64 wd) ∧ w'.cell? ⟨W.heap.size, 7, none⟩ = some (.string s) ∧ w'.cell? ⟨W.heap.size, 8, none⟩ = some v)
    (first
      | exact ⟨x6, q0, q1, q2, q3, q4, q5, q6, q7, q8⟩
      | exact ⟨h2.held.2.2.2.2, (show Nx _ _ ⟨kd, bb, neg, dig, exp, u, wd, s⟩ v from Ok.bx hk2 HX.out (by have := HLt.out; omega) (by decide)).nine⟩)
    ((refine (HC.out _ HK1.out.drew H1.out.drew).mono ?_; rintro o w2 ⟨rfl, h2, hk2⟩))
  all_goals
    go_end0
    exact ⟨rfl, h2, HK1.out.drew.trans hk2⟩
end
end Go.Proofs.YtomociaidccfmaaGreatDoor
