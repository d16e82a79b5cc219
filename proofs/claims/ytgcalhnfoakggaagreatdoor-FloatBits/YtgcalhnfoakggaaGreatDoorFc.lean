/- What the cards' frames share: the listed tables, a world that holds them. -/
import Derived.Test.YtgcalhnfoakggaaGreatDoorFd
import Derived.Test.YtgcalhnfoakggaaGreatDoorCards
import Derived.Test.YtgcalhnfoakggaaGreatDoorTie
import Derived.Test.YtgcalhnfoakggaaGreatDoorK1
import Derived.Deep.DeepHandedRow
import Derived.Lib.LaidTab
import Derived.Stop.LaidErr
namespace Go.Proofs.YtgcalhnfoakggaaGreatDoor
open Go.ChangeShapes Go.WideShapes Go.ChangeAt Go.RowKit

theorem gPow : Tryz.prog.globalNamed "internal/strconv.uint64pow10" = some 2 := by kernel_rfl
theorem gPowT : (Tryz.prog.globals[2]?).map (·.type) = some 158 := by kernel_rfl
theorem cells20 : Tryz.prog.cellsOf 158 = 20 := by kernel_rfl
theorem cells64 : Tryz.prog.cellsOf 22 = 1 := by kernel_rfl

def tabs : List (String × DataW Unit) := [("math/bits.deBruijn32tab", Rows.laid_math_bits_deBruijn32tab), ("math/bits.deBruijn64tab", Rows.laid_math_bits_deBruijn64tab), ("internal/strconv.uint64pow10", Rows.laid_internal_strconv_uint64pow10), ("unicode/utf8.acceptRanges", Rows.laid_unicode_utf8_acceptRanges), ("targum/float.forms", Rows.laid_targum_float_forms), ("unicode/utf8.first", Rows.laid_unicode_utf8_first)]
theorem tab_of {W : World} (h : laidMetH Tryz.prog tabs W) : Tab W :=
  Lib.tabIs_of_head (rest := [("unicode/utf8.acceptRanges", Rows.laid_unicode_utf8_acceptRanges), ("targum/float.forms", Rows.laid_targum_float_forms), ("unicode/utf8.first", Rows.laid_unicode_utf8_first)]) gPow gPowT Tryz.underlying158 Tryz.underlying22 cells64 cells20 (laidMet.tail (laidMet.tail (show laidMet Tryz.prog tabs W from h)))

theorem gBru : Tryz.prog.globalNamed "math/bits.deBruijn64tab" = some 1 := by kernel_rfl
theorem gBruT : (Tryz.prog.globals[1]?).map (·.type) = some 117 := by kernel_rfl
theorem cells64t : Tryz.prog.cellsOf 117 = 64 := by kernel_rfl
theorem cells8 : Tryz.prog.cellsOf 5 = 1 := by kernel_rfl
theorem bru_data : (Rows.laid_math_bits_deBruijn64tab : DataW Unit) = Lib.tabData .u8 (Lib.deBruijn64tab.map fun n : Nat => (n : Int)) := by rfl
theorem bru_of {W : World} (h : laidMetH Tryz.prog tabs W) : BruT W := by
  have h1 : laidMet Tryz.prog (("math/bits.deBruijn64tab", Lib.tabData .u8 (Lib.deBruijn64tab.map fun n : Nat => (n : Int))) :: [("internal/strconv.uint64pow10", Rows.laid_internal_strconv_uint64pow10), ("unicode/utf8.acceptRanges", Rows.laid_unicode_utf8_acceptRanges), ("targum/float.forms", Rows.laid_targum_float_forms), ("unicode/utf8.first", Rows.laid_unicode_utf8_first)]) W := by
    rw [← bru_data]
    exact laidMet.tail (show laidMet Tryz.prog tabs W from h)
  have h2 := Lib.tabIs_of_head gBru gBruT Tryz.underlying117 Tryz.underlying5 cells8 cells64t h1
  intro j hj
  have h3 := h2.cell gBru j (by rw [List.length_map]; exact hj)
  rw [h3, List.getD_eq_getElem?_getD, List.getElem?_map, List.getD_eq_getElem?_getD, List.getElem?_eq_getElem hj]
  rfl

/-- The cells of a struct, of an array, that read as data. -/
theorem trod_fields {H : Type} {enc : TypeId × Value → H} {P : Program} {w : World} {base : Nat} {sp : Nat → Bool} {held : Bool} {fuel : Nat} {t : TypeId} {cs : List Value} {ds : List (DataW H)} {p : List MemPlace} {fs : Array Field}
    (ht : P.underlying t = some (.struct fs)) (h : DataW.trod enc P w base sp held fuel t cs = some (.agg ds, p)) :
    cs.length = P.cellsOf t ∧ ∀ (i : Nat) f d, fs.toList[i]? = some f → ds[i]? = some d → ∃ fu q, DataW.trod enc P w base sp held fu f.type ((cs.drop f.offset).take (P.cellsOf f.type)) = some (d, q) := by
  cases fuel with
  | zero => simp [DataW.trod] at h
  | succ fuel =>
    simp only [DataW.trod, ht] at h
    split at h
    · rename_i hl
      obtain ⟨xs, hm, hx⟩ := Option.map_eq_some_iff.1 h
      have hxs : xs.map (·.1) = ds := by
        have := congrArg Prod.fst hx
        simpa using this
      refine ⟨hl, fun i f d hf hd => ?_⟩
      obtain ⟨b, hb, hfb⟩ := Lib.mapM_at hm i f hf
      have h2 : (xs.map (·.1))[i]? = some b.1 := by simp [hb]
      rw [hxs, hd] at h2
      exact ⟨fuel, b.2, by rw [hfb, Option.some.inj h2]⟩
    · cases h
theorem trod_elems {H : Type} {enc : TypeId × Value → H} {P : Program} {w : World} {base : Nat} {sp : Nat → Bool} {held : Bool} {fuel : Nat} {t e : TypeId} {n : Nat} {cs : List Value} {ds : List (DataW H)} {p : List MemPlace}
    (ht : P.underlying t = some (.array n e)) (h : DataW.trod enc P w base sp held fuel t cs = some (.agg ds, p)) :
    cs.length = P.cellsOf t ∧ ∀ (i : Nat) d, i < n → ds[i]? = some d → ∃ fu q, DataW.trod enc P w base sp held fu e ((cs.drop (i * P.cellsOf e)).take (P.cellsOf e)) = some (d, q) := by
  cases fuel with
  | zero => simp [DataW.trod] at h
  | succ fuel =>
    simp only [DataW.trod, ht] at h
    split at h
    · rename_i hl
      obtain ⟨xs, hm, hx⟩ := Option.map_eq_some_iff.1 h
      have hxs : xs.map (·.1) = ds := by
        have := congrArg Prod.fst hx
        simpa using this
      refine ⟨hl, fun i d hi hd => ?_⟩
      obtain ⟨b, hb, hfb⟩ := Lib.mapM_at hm i i (by simp [hi])
      have h2 : (xs.map (·.1))[i]? = some b.1 := by simp [hb]
      rw [hxs, hd] at h2
      exact ⟨fuel, b.2, by rw [hfb, Option.some.inj h2]⟩
    · cases h
theorem cellsS : Tryz.prog.cellsOf 40 = 2 := by kernel_rfl
theorem cellsF : Tryz.prog.cellsOf 42 = 3 := by kernel_rfl
theorem cellsA : Tryz.prog.cellsOf 73 = 9 := by kernel_rfl
theorem cellsI : Tryz.prog.cellsOf 3 = 1 := by kernel_rfl
theorem one_of {l : List Value} {i : Nat} {v : Value} (h : (l.drop i).take 1 = [v]) : l[i]? = some v := by
  have := congrArg (·[0]?) h
  simpa [List.getElem?_take, List.getElem?_drop] using this
theorem int_of {H : Type} {enc : TypeId × Value → H} {w : World} {base : Nat} {sp : Nat → Bool} {held : Bool} {fuel : Nat} {cs : List Value} {n : Int} {p : List MemPlace}
    (h : DataW.trod enc Tryz.prog w base sp held fuel 3 cs = some (.lit (.int .i64 n), p)) : cs = [.int .i64 n] := by
  obtain ⟨z, hc, hx, _⟩ := DataW.trod_int Tryz.underlying3 h
  cases hx
  exact hc
set_option maxRecDepth 100000 in
theorem sizes_of {H : Type} {enc : TypeId × Value → H} {w : World} {base : Nat} {sp : Nat → Bool} {held : Bool} {fuel : Nat} {cs : List Value} {a b : Int} {p : List MemPlace}
    (h : DataW.trod enc Tryz.prog w base sp held fuel 40 cs = some (.agg [.lit (.int .i64 a), .lit (.int .i64 b)], p)) : cs = [.int .i64 a, .int .i64 b] := by
  obtain ⟨hl, hf⟩ := trod_fields Tryz.underlying40 h
  obtain ⟨_, _, h0⟩ := hf 0 _ _ rfl rfl
  obtain ⟨_, _, h1⟩ := hf 1 _ _ rfl rfl
  have e0 := int_of h0
  have e1 := int_of h1
  simp only [cellsI] at e0 e1
  have hl := hl.trans cellsS
  have q0 := one_of e0
  have q1 := one_of e1
  match cs, hl with
  | [x, y], _ =>
    simp at q0 q1
    rw [q0, q1]
set_option maxRecDepth 100000 in
theorem form_of {H : Type} {enc : TypeId × Value → H} {w : World} {base : Nat} {sp : Nat → Bool} {held : Bool} {fuel : Nat} {cs : List Value} {a b c : Int} {p : List MemPlace}
    (h : DataW.trod enc Tryz.prog w base sp held fuel 42 cs = some (.agg [.agg [.lit (.int .i64 a), .lit (.int .i64 b)], .lit (.int .i64 c)], p)) : cs = [.int .i64 a, .int .i64 b, .int .i64 c] := by
  obtain ⟨hl, hf⟩ := trod_fields Tryz.underlying42 h
  obtain ⟨_, _, h0⟩ := hf 0 _ _ rfl rfl
  obtain ⟨_, _, h1⟩ := hf 1 _ _ rfl rfl
  have e0 := sizes_of h0
  have e1 := int_of h1
  simp only [cellsI, cellsS] at e0 e1
  have hl := hl.trans cellsF
  match cs, hl with
  | [x, y, z], _ =>
    simp at e0 e1
    rw [e0.1, e0.2, e1]
theorem gFrmT : (Tryz.prog.globals[0]?).map (·.type) = some 73 := by kernel_rfl
set_option maxRecDepth 100000 in
theorem frm_of {W : World} (h : laidMetH Tryz.prog tabs W) : FrmT W := by
  have h1 := laidMet.tail (laidMet.tail (laidMet.tail (laidMet.tail (show laidMet Tryz.prog tabs W from h))))
  obtain ⟨ps, ⟨g', t', cs, fuel, p, q, hg', ht', hvar, hd, _, _⟩, _⟩ := h1
  obtain rfl := Option.some.inj (gFrm.symm.trans hg')
  obtain rfl := Option.some.inj (gFrmT.symm.trans ht')
  unfold FrmT Lib.TabIs
  rw [hvar]
  obtain ⟨hl, hf⟩ := trod_elems Tryz.underlying73 hd
  obtain ⟨_, _, h0⟩ := hf 0 _ (by decide) rfl
  obtain ⟨_, _, h1⟩ := hf 1 _ (by decide) rfl
  obtain ⟨_, _, h2⟩ := hf 2 _ (by decide) rfl
  have e0 := form_of h0
  have e1 := form_of h1
  have e2 := form_of h2
  rw [cellsF] at e0 e1 e2
  have hl := hl.trans cellsA
  refine congrArg some (Array.toList_inj.1 ?_)
  generalize cs.toList = l at hl e0 e1 e2
  match l, hl with
  | [x0, x1, x2, x3, x4, x5, x6, x7, x8], _ =>
    simp at e0 e1 e2
    rw [e0.1, e0.2.1, e0.2.2, e1.1, e1.2.1, e1.2.2, e2.1, e2.2.1, e2.2.2]
    rfl
theorem tb_of {W : World} (h : laidMetH Tryz.prog tabs W) : Tf W := ⟨⟨frm_of h, bru_of h⟩, tab_of h⟩

def put (k : IntKind) (zs : List Int) : Obj → Obj
  | .cells _ t frozen => .cells (zs.map (Value.int k)).toArray t frozen
  | o => o
def ofLit : DataW Unit → Int
  | .lit (.int _ n) => n
  | _ => 0
def ofTab (d : DataW Unit) : List Int := match d with
  | .agg l => l.map ofLit
  | _ => []
def ofTab2 (d : DataW Unit) : List Int := match d with
  | .agg l => (l.map ofTab).flatten
  | _ => []
/-- A world for a witness: the settled one, the tables as their initialisers lay them. -/
noncomputable def laidWorld (os : Os) : World :=
  { World.holding Tryz.prog os ⟨#[], #[], []⟩ with heap := ((((((World.holding Tryz.prog os ⟨#[], #[], []⟩).heap.modify 6 (put .u8 (ofTab Rows.laid_math_bits_deBruijn32tab))).modify 1 (put .u8 (ofTab Rows.laid_math_bits_deBruijn64tab))).modify 2 (put .u64 (ofTab Rows.laid_internal_strconv_uint64pow10))).modify 4 (put .u8 (ofTab2 Rows.laid_unicode_utf8_acceptRanges))).modify 0 (put .i64 [5, 10, 16, 8, 23, 32, 11, 52, 64])).modify 3 (put .u8 (ofTab Rows.laid_unicode_utf8_first)) }
theorem laid_met (os : Os) (args : Array Value) : laidMet Tryz.prog tabs ((laidWorld os).forCall (fun _ _ => 0) ⟨#[], args, []⟩).memory :=
  laidMet_of_run' 8 (by kernel_rfl) (by kernel_rfl)
end Go.Proofs.YtgcalhnfoakggaaGreatDoor
