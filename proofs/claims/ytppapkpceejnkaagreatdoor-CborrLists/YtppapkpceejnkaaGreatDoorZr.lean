/- What the cards' frames share: the listed tables, a world that holds them. The cards' witness: a world that holds the tables. -/
import Derived.Test.YtppapkpceejnkaaGreatDoorFr
import Derived.Test.YtppapkpceejnkaaGreatDoorMa
import Derived.Test.YtppapkpceejnkaaGreatDoorCards
import Derived.Test.YtppapkpceejnkaaGreatDoorTie
import Derived.Test.YtppapkpceejnkaaGreatDoorZq
import Derived.Deep.DeepHandedRow
import Derived.Lib.LaidTab
import Derived.Stop.LaidErr
import Derived.LaidHandle
namespace Go.Proofs.YtppapkpceejnkaaGreatDoor
open Go.ChangeShapes Go.WideShapes Go.ChangeAt Go.RowKit

theorem starE : "*" ++ "errors.errorString" = "*errors.errorString" := by decide
theorem rowE (u : TypeId) (h : Tryz.prog.typeName? 3 u = some "*errors.errorString") : u = 320 :=
  typeName_ptr_named (nm := "errors.errorString") (by rw [starE]; kernel_rfl) (by kernel_rfl) (by decide) u (by rw [starE]; exact h)
theorem gRange : Tryz.prog.globalNamed "strconv.ErrRange" = some 10 := by kernel_rfl
theorem gRangeT : (Tryz.prog.globals[10]?).map (·.type) = some 57 := by kernel_rfl
theorem cellsES : Tryz.prog.cellsOf 322 = 1 := by kernel_rfl
theorem cellsStr : Tryz.prog.cellsOf 9 = 1 := by kernel_rfl

def tabs : List (String × DataW Unit) := [("math/bits.deBruijn32tab", Rows.laid_math_bits_deBruijn32tab), ("math/bits.deBruijn64tab", Rows.laid_math_bits_deBruijn64tab), ("internal/strconv.uint64pow10", Rows.laid_internal_strconv_uint64pow10), ("unicode/utf8.acceptRanges", Rows.laid_unicode_utf8_acceptRanges), ("errors.errorType", Rows.laid_errors_errorType), ("strconv.ErrRange", Rows.laid_strconv_ErrRange), ("strconv.ErrSyntax", Rows.laid_strconv_ErrSyntax), ("targum/head.sizes", Rows.laid_targum_head_sizes), ("targum/float.forms", Rows.laid_targum_float_forms), ("targum/tree.errForm", Rows.laid_targum_tree_errForm), ("targum/tree.errTree", Rows.laid_targum_tree_errTree), ("unicode/utf8.first", Rows.laid_unicode_utf8_first)]
def plainTabs : List (String × DataW Unit) := [("math/bits.deBruijn32tab", Rows.laid_math_bits_deBruijn32tab), ("math/bits.deBruijn64tab", Rows.laid_math_bits_deBruijn64tab), ("internal/strconv.uint64pow10", Rows.laid_internal_strconv_uint64pow10), ("unicode/utf8.acceptRanges", Rows.laid_unicode_utf8_acceptRanges), ("strconv.ErrRange", Rows.laid_strconv_ErrRange), ("strconv.ErrSyntax", Rows.laid_strconv_ErrSyntax), ("targum/head.sizes", Rows.laid_targum_head_sizes), ("targum/float.forms", Rows.laid_targum_float_forms), ("targum/tree.errForm", Rows.laid_targum_tree_errForm), ("targum/tree.errTree", Rows.laid_targum_tree_errTree), ("unicode/utf8.first", Rows.laid_unicode_utf8_first)]
theorem plain_of {W : World} (h : laidMetH Tryz.prog tabs W) : laidMet Tryz.prog plainTabs W := h.1
theorem gBru : Tryz.prog.globalNamed "math/bits.deBruijn64tab" = some 8 := by kernel_rfl
theorem gBruT : (Tryz.prog.globals[8]?).map (·.type) = some 315 := by kernel_rfl
theorem cells64t : Tryz.prog.cellsOf 315 = 64 := by kernel_rfl
theorem cells8 : Tryz.prog.cellsOf 5 = 1 := by kernel_rfl
theorem bru_data : (Rows.laid_math_bits_deBruijn64tab : DataW Unit) = Lib.tabData .u8 (Lib.deBruijn64tab.map fun n : Nat => (n : Int)) := by rfl
theorem bru_of {W : World} (h : laidMetH Tryz.prog tabs W) : BruT W := by
  have h1 : laidMet Tryz.prog (("math/bits.deBruijn64tab", Lib.tabData .u8 (Lib.deBruijn64tab.map fun n : Nat => (n : Int))) :: [("internal/strconv.uint64pow10", Rows.laid_internal_strconv_uint64pow10), ("unicode/utf8.acceptRanges", Rows.laid_unicode_utf8_acceptRanges), ("strconv.ErrRange", Rows.laid_strconv_ErrRange), ("strconv.ErrSyntax", Rows.laid_strconv_ErrSyntax), ("targum/head.sizes", Rows.laid_targum_head_sizes), ("targum/float.forms", Rows.laid_targum_float_forms), ("targum/tree.errForm", Rows.laid_targum_tree_errForm), ("targum/tree.errTree", Rows.laid_targum_tree_errTree), ("unicode/utf8.first", Rows.laid_unicode_utf8_first)]) W := by
    rw [← bru_data]
    exact laidMet.tail (plain_of h)
  have h2 := Lib.tabIs_of_head gBru gBruT Tryz.underlying315 Tryz.underlying5 cells8 cells64t h1
  intro j hj
  have h3 := h2.cell gBru j (by rw [List.length_map]; exact hj)
  rw [h3, List.getD_eq_getElem?_getD, List.getElem?_map, List.getD_eq_getElem?_getD, List.getElem?_eq_getElem hj]
  rfl

/-- The cells of a struct, of an array, that read as data. -/
theorem trod_fields {H : Type} {enc : TypeId × Value → H} {P : Program} {w : World} {base : Nat} {sp : Nat → Bool} {held : Bool} {fuel : Nat} {t : TypeId} {cs : List Value} {ds : List (DataW H)} {p : List MemPlace} {fs : Array Field}
    (ht : P.underlying t = some (.struct fs)) (h : DataW.trod enc P w base sp held fuel t cs = some (.agg ds, p)) :
    cs.length = P.cellsOf t ∧ ∀ (i : Nat) f d, fs.toList[i]? = some f → ds[i]? = some d → ∃ fu q, DataW.trod enc P w base sp held fu f.type ((cs.drop f.offset).take (P.cellsOf f.type)) = some (d, q) := by
  cases fuel with
  | zero => simp [DataW.trod] at h
  | succ fuel =>
    simp only [DataW.trod, ht] at h
    split at h
    · rename_i hl
      obtain ⟨xs, hm, hx⟩ := Option.map_eq_some_iff.1 h
      have hxs : xs.map (·.1) = ds := by
        have := congrArg Prod.fst hx
        simpa using this
      refine ⟨hl, fun i f d hf hd => ?_⟩
      obtain ⟨b, hb, hfb⟩ := Lib.mapM_at hm i f hf
      have h2 : (xs.map (·.1))[i]? = some b.1 := by simp [hb]
      rw [hxs, hd] at h2
      exact ⟨fuel, b.2, by rw [hfb, Option.some.inj h2]⟩
    · cases h
theorem trod_elems {H : Type} {enc : TypeId × Value → H} {P : Program} {w : World} {base : Nat} {sp : Nat → Bool} {held : Bool} {fuel : Nat} {t e : TypeId} {n : Nat} {cs : List Value} {ds : List (DataW H)} {p : List MemPlace}
    (ht : P.underlying t = some (.array n e)) (h : DataW.trod enc P w base sp held fuel t cs = some (.agg ds, p)) :
    cs.length = P.cellsOf t ∧ ∀ (i : Nat) d, i < n → ds[i]? = some d → ∃ fu q, DataW.trod enc P w base sp held fu e ((cs.drop (i * P.cellsOf e)).take (P.cellsOf e)) = some (d, q) := by
  cases fuel with
  | zero => simp [DataW.trod] at h
  | succ fuel =>
    simp only [DataW.trod, ht] at h
    split at h
    · rename_i hl
      obtain ⟨xs, hm, hx⟩ := Option.map_eq_some_iff.1 h
      have hxs : xs.map (·.1) = ds := by
        have := congrArg Prod.fst hx
        simpa using this
      refine ⟨hl, fun i d hi hd => ?_⟩
      obtain ⟨b, hb, hfb⟩ := Lib.mapM_at hm i i (by simp [hi])
      have h2 : (xs.map (·.1))[i]? = some b.1 := by simp [hb]
      rw [hxs, hd] at h2
      exact ⟨fuel, b.2, by rw [hfb, Option.some.inj h2]⟩
    · cases h
theorem cellsS : Tryz.prog.cellsOf 225 = 2 := by kernel_rfl
theorem cellsF : Tryz.prog.cellsOf 227 = 3 := by kernel_rfl
theorem cellsA : Tryz.prog.cellsOf 265 = 9 := by kernel_rfl
theorem cellsI : Tryz.prog.cellsOf 3 = 1 := by kernel_rfl
theorem one_of {l : List Value} {i : Nat} {v : Value} (h : (l.drop i).take 1 = [v]) : l[i]? = some v := by
  have := congrArg (·[0]?) h
  simpa [List.getElem?_take, List.getElem?_drop] using this
theorem int_of {H : Type} {enc : TypeId × Value → H} {w : World} {base : Nat} {sp : Nat → Bool} {held : Bool} {fuel : Nat} {cs : List Value} {n : Int} {p : List MemPlace}
    (h : DataW.trod enc Tryz.prog w base sp held fuel 3 cs = some (.lit (.int .i64 n), p)) : cs = [.int .i64 n] := by
  obtain ⟨z, hc, hx, _⟩ := DataW.trod_int Tryz.underlying3 h
  cases hx
  exact hc
set_option maxRecDepth 100000 in
theorem sizes_of {H : Type} {enc : TypeId × Value → H} {w : World} {base : Nat} {sp : Nat → Bool} {held : Bool} {fuel : Nat} {cs : List Value} {a b : Int} {p : List MemPlace}
    (h : DataW.trod enc Tryz.prog w base sp held fuel 225 cs = some (.agg [.lit (.int .i64 a), .lit (.int .i64 b)], p)) : cs = [.int .i64 a, .int .i64 b] := by
  obtain ⟨hl, hf⟩ := trod_fields Tryz.underlying225 h
  obtain ⟨_, _, h0⟩ := hf 0 _ _ rfl rfl
  obtain ⟨_, _, h1⟩ := hf 1 _ _ rfl rfl
  have e0 := int_of h0
  have e1 := int_of h1
  simp only [cellsI] at e0 e1
  have hl := hl.trans cellsS
  have q0 := one_of e0
  have q1 := one_of e1
  match cs, hl with
  | [x, y], _ =>
    simp at q0 q1
    rw [q0, q1]
set_option maxRecDepth 100000 in
theorem form_of {H : Type} {enc : TypeId × Value → H} {w : World} {base : Nat} {sp : Nat → Bool} {held : Bool} {fuel : Nat} {cs : List Value} {a b c : Int} {p : List MemPlace}
    (h : DataW.trod enc Tryz.prog w base sp held fuel 227 cs = some (.agg [.agg [.lit (.int .i64 a), .lit (.int .i64 b)], .lit (.int .i64 c)], p)) : cs = [.int .i64 a, .int .i64 b, .int .i64 c] := by
  obtain ⟨hl, hf⟩ := trod_fields Tryz.underlying227 h
  obtain ⟨_, _, h0⟩ := hf 0 _ _ rfl rfl
  obtain ⟨_, _, h1⟩ := hf 1 _ _ rfl rfl
  have e0 := sizes_of h0
  have e1 := int_of h1
  simp only [cellsI, cellsS] at e0 e1
  have hl := hl.trans cellsF
  match cs, hl with
  | [x, y, z], _ =>
    simp at e0 e1
    rw [e0.1, e0.2, e1]
theorem gFrmT : (Tryz.prog.globals[4]?).map (·.type) = some 265 := by kernel_rfl
set_option maxRecDepth 100000 in
theorem frm_of {W : World} (h : laidMetH Tryz.prog tabs W) : FrmT W := by
  have h1 := laidMet.tail (laidMet.tail (laidMet.tail (laidMet.tail (laidMet.tail (laidMet.tail (laidMet.tail (plain_of h)))))))
  obtain ⟨ps, ⟨g', t', cs, fuel, p, q, hg', ht', hvar, hd, _, _⟩, _⟩ := h1
  obtain rfl := Option.some.inj (gFrm.symm.trans hg')
  obtain rfl := Option.some.inj (gFrmT.symm.trans ht')
  unfold FrmT Lib.TabIs
  rw [hvar]
  obtain ⟨hl, hf⟩ := trod_elems Tryz.underlying265 hd
  obtain ⟨_, _, h0⟩ := hf 0 _ (by decide) rfl
  obtain ⟨_, _, h1⟩ := hf 1 _ (by decide) rfl
  obtain ⟨_, _, h2⟩ := hf 2 _ (by decide) rfl
  have e0 := form_of h0
  have e1 := form_of h1
  have e2 := form_of h2
  rw [cellsF] at e0 e1 e2
  have hl := hl.trans cellsA
  refine congrArg some (Array.toList_inj.1 ?_)
  generalize cs.toList = l at hl e0 e1 e2
  match l, hl with
  | [x0, x1, x2, x3, x4, x5, x6, x7, x8], _ =>
    simp at e0 e1 e2
    rw [e0.1, e0.2.1, e0.2.2, e1.1, e1.2.1, e1.2.2, e2.1, e2.2.1, e2.2.2]
    rfl
theorem errR_of {W : World} (h : laidMetH Tryz.prog tabs W) : ErrR W := by
  have h3 := laidMet.tail (laidMet.tail (laidMet.tail (laidMet.tail (plain_of h))))
  obtain ⟨a, s, hv, _⟩ := laid_sentinel h3 gRange gRangeT Tryz.underlying57 rowE Tryz.underlying320 Tryz.underlying322 rfl rfl Tryz.underlying9 cellsES cellsStr
  have h0 := World.var?_cell gRange hv 0
  exact ⟨_, _, by simpa using h0⟩
theorem gForm : Tryz.prog.globalNamed "targum/tree.errForm" = some 1 := by kernel_rfl
theorem gFormT : (Tryz.prog.globals[1]?).map (·.type) = some 57 := by kernel_rfl
theorem gTree : Tryz.prog.globalNamed "targum/tree.errTree" = some 0 := by kernel_rfl
theorem gTreeT : (Tryz.prog.globals[0]?).map (·.type) = some 57 := by kernel_rfl
set_option maxRecDepth 100000 in
theorem laid_sent {n : String} {text : List UInt8} {r : List (String × DataW Unit)} {W : World} {g : Nat} (h : laidMet Tryz.prog ((n, .iface "*errors.errorString" (.ptr (.agg [.lit (.string text)]))) :: r) W)
    (hg : Tryz.prog.globalNamed n = some g) (ht : (Tryz.prog.globals[g]?).map (·.type) = some 57) :
    ∃ (a : Addr) (s : ByteArray), W.cell? ⟨g, 0, none⟩ = some (erV a) ∧ W.cell? a = some (.string s) ∧ s.data.toList = text ∧ ∃ c T, W.heap[a.block]? = some (.cells c T (0, 0)) := by
  obtain ⟨ps, ⟨g0, t0, cs0, f0, p0, q0, hg0, ht0, hv0, hd0, _, e0⟩, _, hrows⟩ := h
  obtain rfl := Option.some.inj (hg.symm.trans hg0)
  obtain rfl := Option.some.inj (ht.symm.trans ht0)
  subst e0
  obtain ⟨l0⟩ := cs0
  have ok0 : ∀ u v, l0 = [.iface u v] → Value.okWide Tryz.prog W .any 0 u v := fun u v e => by
    subst e
    exact (hrows g 0 (by simp [MemPlace.row])).2 u v (by simpa using World.var?_cell hg0 hv0 0)
  obtain ⟨a0, s0, rfl, hc0, hs0, hz0, hp0⟩ := errorString_of_trod Tryz.underlying57 rowE Tryz.underlying320 Tryz.underlying322 rfl rfl Tryz.underlying9 cellsES cellsStr hd0 ok0
  refine ⟨a0, s0, by simpa using World.var?_cell hg0 hv0 0, hc0, hs0, ?_⟩
  subst hp0
  have hsp : a0.spot = none := by
    unfold World.cell? at hc0
    split at hc0
    · split at hc0
      · cases hc0
      · rename_i hns
        cases hs : a0.spot with
        | none => rfl
        | some x => rw [hs] at hns; exact absurd rfl hns
    · cases hc0
  exact (hrows a0.block a0.off (by simp [MemPlace.row])).1
set_option maxRecDepth 100000 in
theorem te_of {W : World} (h : laidMetH Tryz.prog tabs W) : ∃ aT aF, Te W aT aF := by
  have h6 := laidMet.tail (laidMet.tail (laidMet.tail (laidMet.tail (laidMet.tail (laidMet.tail (laidMet.tail (laidMet.tail (plain_of h))))))))
  obtain ⟨aF, sF, hF1, hF2, hF3, hF4⟩ := laid_sent h6 gForm gFormT
  obtain ⟨aT, sT, hT1, hT2, hT3, hT4⟩ := laid_sent (laidMet.tail h6) gTree gTreeT
  refine ⟨aT, aF, hT1, hF1, fun e => ?_, hT4, hF4⟩
  subst e
  rw [hT2] at hF2
  cases hF2
  rw [hT3] at hF3
  exact absurd hF3 (by decide)
theorem cellsH : Tryz.prog.cellsOf 78 = 2 := by kernel_rfl
theorem cellsH4 : Tryz.prog.cellsOf 175 = 8 := by kernel_rfl
set_option maxRecDepth 100000 in
theorem hsize_of {H : Type} {enc : TypeId × Value → H} {w : World} {base : Nat} {sp : Nat → Bool} {held : Bool} {fuel : Nat} {cs : List Value} {a b : Int} {p : List MemPlace}
    (h : DataW.trod enc Tryz.prog w base sp held fuel 78 cs = some (.agg [.lit (.int .i64 a), .lit (.int .i64 b)], p)) : cs = [.int .i64 a, .int .i64 b] := by
  obtain ⟨hl, hf⟩ := trod_fields Tryz.underlying78 h
  obtain ⟨_, _, h0⟩ := hf 0 _ _ rfl rfl
  obtain ⟨_, _, h1⟩ := hf 1 _ _ rfl rfl
  have e0 := int_of h0
  have e1 := int_of h1
  simp only [cellsI] at e0 e1
  have hl := hl.trans cellsH
  have q0 := one_of e0
  have q1 := one_of e1
  match cs, hl with
  | [x, y], _ =>
    simp at q0 q1
    rw [q0, q1]
theorem gSizT : (Tryz.prog.globals[3]?).map (·.type) = some 175 := by kernel_rfl
set_option maxRecDepth 100000 in
theorem siz_of {W : World} (h : laidMetH Tryz.prog tabs W) : SizT W := by
  have h1 := laidMet.tail (laidMet.tail (laidMet.tail (laidMet.tail (laidMet.tail (laidMet.tail (plain_of h))))))
  obtain ⟨ps, ⟨g', t', cs, fuel, p, q, hg', ht', hvar, hd, _, _⟩, _⟩ := h1
  obtain rfl := Option.some.inj (gSiz.symm.trans hg')
  obtain rfl := Option.some.inj (gSizT.symm.trans ht')
  unfold SizT Lib.TabIs
  rw [hvar]
  obtain ⟨hl, hf⟩ := trod_elems Tryz.underlying175 hd
  obtain ⟨_, _, h0⟩ := hf 0 _ (by decide) rfl
  obtain ⟨_, _, h1⟩ := hf 1 _ (by decide) rfl
  obtain ⟨_, _, h2⟩ := hf 2 _ (by decide) rfl
  obtain ⟨_, _, h3⟩ := hf 3 _ (by decide) rfl
  have e0 := hsize_of h0
  have e1 := hsize_of h1
  have e2 := hsize_of h2
  have e3 := hsize_of h3
  rw [cellsH] at e0 e1 e2 e3
  have hl := hl.trans cellsH4
  refine congrArg some (Array.toList_inj.1 ?_)
  generalize cs.toList = l at hl e0 e1 e2 e3
  match l, hl with
  | [x0, x1, x2, x3, x4, x5, x6, x7], _ =>
    simp at e0 e1 e2 e3
    rw [e0.1, e0.2, e1.1, e1.2, e2.1, e2.2, e3.1, e3.2]
    rfl

theorem gPow : Tryz.prog.globalNamed "internal/strconv.uint64pow10" = some 5 := by kernel_rfl
theorem gPowT : (Tryz.prog.globals[5]?).map (·.type) = some 297 := by kernel_rfl
theorem cells20 : Tryz.prog.cellsOf 297 = 20 := by kernel_rfl
theorem cells64 : Tryz.prog.cellsOf 25 = 1 := by kernel_rfl
theorem tab_of {W : World} (h : laidMetH Tryz.prog tabs W) : Tab W :=
  Lib.tabIs_of_head (rest := [("unicode/utf8.acceptRanges", Rows.laid_unicode_utf8_acceptRanges), ("strconv.ErrRange", Rows.laid_strconv_ErrRange), ("strconv.ErrSyntax", Rows.laid_strconv_ErrSyntax), ("targum/head.sizes", Rows.laid_targum_head_sizes), ("targum/float.forms", Rows.laid_targum_float_forms), ("targum/tree.errForm", Rows.laid_targum_tree_errForm), ("targum/tree.errTree", Rows.laid_targum_tree_errTree), ("unicode/utf8.first", Rows.laid_unicode_utf8_first)]) gPow gPowT Tryz.underlying297 Tryz.underlying25 cells64 cells20 (laidMet.tail (laidMet.tail (plain_of h)))
theorem gEty : Tryz.prog.globalNamed "errors.errorType" = some 2 := by kernel_rfl
theorem rtEty : (Tryz.prog.cutTypes.find? (·.1 == "internal/reflectlite.rtype")).map (·.2) = some 144 := by kernel_rfl
theorem oneEty : ((List.range Tryz.prog.types.size).filter fun t => Tryz.prog.rowNamed t [101, 114, 114, 111, 114]) = [57] := by kernel_rfl
theorem ety_of {W : World} (h : laidMetH Tryz.prog tabs W) : ErT W := by
  obtain ⟨name, u, ty, e1, e2, e3, e4, e5⟩ := h.2 ("errors.errorType", Rows.laid_errors_errorType) (by simp)
  have en : name = [101, 114, 114, 111, 114] := (Option.some.inj e1).symm
  subst en
  obtain rfl := Option.some.inj (rtEty.symm.trans e2)
  have hm : ty ∈ (List.range Tryz.prog.types.size).filter fun t => Tryz.prog.rowNamed t [101, 114, 114, 111, 114] := List.mem_filter.2 ⟨List.mem_range.2 e3, e4⟩
  rw [oneEty] at hm
  obtain rfl := List.mem_singleton.1 hm
  have hh : typeHandle Tryz.prog 57 = rtC 57 := by kernel_rfl
  rw [hh] at e5
  unfold ErT
  simpa using World.var?_cell gEty e5 0
theorem tc_of {W : World} (h : laidMetH Tryz.prog tabs W) : Tc W := ⟨⟨⟨⟨⟨frm_of h, bru_of h⟩, errR_of h⟩, te_of h⟩, tab_of h⟩, siz_of h, ety_of h⟩
end Go.Proofs.YtppapkpceejnkaaGreatDoor
namespace Go.Proofs.YtppapkpceejnkaaGreatDoor
open Go.ChangeShapes Go.WideShapes Go.ChangeAt Go.RowKit

def put (k : IntKind) (zs : List Int) : Obj → Obj
  | .cells _ t frozen => .cells (zs.map (Value.int k)).toArray t frozen
  | o => o
def ofLit : DataW Unit → Int
  | .lit (.int _ n) => n
  | _ => 0
def ofTab (d : DataW Unit) : List Int := match d with
  | .agg l => l.map ofLit
  | _ => []
def ofTab2 (d : DataW Unit) : List Int := match d with
  | .agg l => (l.map ofTab).flatten
  | _ => []
def putV (v : Value) : Obj → Obj
  | .cells _ t frozen => .cells #[v] t frozen
  | o => o
def wordRange : ByteArray := ⟨#[118, 97, 108, 117, 101, 32, 111, 117, 116, 32, 111, 102, 32, 114, 97, 110, 103, 101]⟩
def wordFault : ByteArray := ⟨#[105, 110, 118, 97, 108, 105, 100, 32, 115, 121, 110, 116, 97, 120]⟩
def wordForm : ByteArray := ⟨#[116, 114, 101, 101, 58, 32, 100, 111, 101, 115, 32, 110, 111, 116, 32, 102, 105, 116, 32, 116, 104, 101, 32, 102, 111, 114, 109]⟩
def wordTree : ByteArray := ⟨#[116, 114, 101, 101, 58, 32, 110, 111, 32, 114, 105, 103, 104, 116, 32, 116, 114, 101, 101]⟩
set_option maxRecDepth 100000 in
/-- A world for a witness: the settled one with four blocks more, the tables and the errors as their initialisers lay them. -/
noncomputable def laidWorld (os : Os) : World :=
  { World.holding Tryz.prog os ⟨#[.cells #[.string wordFault] 322, .cells #[.string wordRange] 322, .cells #[.string wordForm] 322, .cells #[.string wordTree] 322], #[], []⟩ with heap := (((((((((((((World.holding Tryz.prog os ⟨#[.cells #[.string wordFault] 322, .cells #[.string wordRange] 322, .cells #[.string wordForm] 322, .cells #[.string wordTree] 322], #[], []⟩).heap.modify 12 (put .u8 (ofTab Rows.laid_math_bits_deBruijn32tab))).modify 8 (put .u8 (ofTab Rows.laid_math_bits_deBruijn64tab))).modify 5 (put .u64 (ofTab Rows.laid_internal_strconv_uint64pow10))).modify 7 (put .u8 (ofTab2 Rows.laid_unicode_utf8_acceptRanges))).modify 6 (put .u8 (ofTab Rows.laid_unicode_utf8_first))).modify 3 (put .i64 [24, 1, 25, 2, 26, 4, 27, 8])).modify 2 (putV (.iface 144 (.agg #[rtC 57])))).modify 4 (put .i64 [5, 10, 16, 8, 23, 32, 11, 52, 64])).modify 9 (putV (.iface 320 (.pointer (some ⟨(World.settled Tryz.prog os).heap.size, 0, none⟩))))).modify 10 (putV (.iface 320 (.pointer (some ⟨(World.settled Tryz.prog os).heap.size + 1, 0, none⟩))))).modify 1 (putV (.iface 320 (.pointer (some ⟨(World.settled Tryz.prog os).heap.size + 2, 0, none⟩))))).modify 0 (putV (.iface 320 (.pointer (some ⟨(World.settled Tryz.prog os).heap.size + 3, 0, none⟩))))) }
set_option maxRecDepth 100000 in
theorem laid_met (os : Os) (args : Array Value) : laidMetH Tryz.prog tabs ((laidWorld os).forCall (fun _ _ => 0) ⟨#[], args, []⟩).memory :=
  laidMetH_of_parts (laidMet_of_run' 8 (by kernel_rfl) (by kernel_rfl)) (by kernel_rfl)
end Go.Proofs.YtppapkpceejnkaaGreatDoor
