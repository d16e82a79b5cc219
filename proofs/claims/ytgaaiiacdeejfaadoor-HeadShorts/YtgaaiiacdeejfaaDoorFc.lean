/- What the cards' frames share: the listed table, a world that holds it. -/
import Derived.Test.YtgaaiiacdeejfaaDoorFr
import Derived.Test.YtgaaiiacdeejfaaDoorQ9
import Derived.Test.YtgaaiiacdeejfaaDoorCards
import Derived.Test.YtgaaiiacdeejfaaDoorTie
import Derived.Deep.DeepHandedRow
import Derived.Lib.LaidTab
import Derived.Stop.LaidErr
namespace Go.Proofs.YtgaaiiacdeejfaaDoor
open Go.ChangeShapes Go.WideShapes Go.ChangeAt Go.RowKit

def tabs : List (String × DataW Unit) := [("targum/head.sizes", Rows.laid_targum_head_sizes)]
/-- The cells of a struct, of an array, that read as data. -/
theorem trod_fields {H : Type} {enc : TypeId × Value → H} {P : Program} {w : World} {base : Nat} {sp : Nat → Bool} {held : Bool} {fuel : Nat} {t : TypeId} {cs : List Value} {ds : List (DataW H)} {p : List MemPlace} {fs : Array Field}
    (ht : P.underlying t = some (.struct fs)) (h : DataW.trod enc P w base sp held fuel t cs = some (.agg ds, p)) :
    cs.length = P.cellsOf t ∧ ∀ (i : Nat) f d, fs.toList[i]? = some f → ds[i]? = some d → ∃ fu q, DataW.trod enc P w base sp held fu f.type ((cs.drop f.offset).take (P.cellsOf f.type)) = some (d, q) := by
  cases fuel with
  | zero => simp [DataW.trod] at h
  | succ fuel =>
    simp only [DataW.trod, ht] at h
    split at h
    · rename_i hl
      obtain ⟨xs, hm, hx⟩ := Option.map_eq_some_iff.1 h
      have hxs : xs.map (·.1) = ds := by
        have := congrArg Prod.fst hx
        simpa using this
      refine ⟨hl, fun i f d hf hd => ?_⟩
      obtain ⟨b, hb, hfb⟩ := Lib.mapM_at hm i f hf
      have h2 : (xs.map (·.1))[i]? = some b.1 := by simp [hb]
      rw [hxs, hd] at h2
      exact ⟨fuel, b.2, by rw [hfb, Option.some.inj h2]⟩
    · cases h
theorem trod_elems {H : Type} {enc : TypeId × Value → H} {P : Program} {w : World} {base : Nat} {sp : Nat → Bool} {held : Bool} {fuel : Nat} {t e : TypeId} {n : Nat} {cs : List Value} {ds : List (DataW H)} {p : List MemPlace}
    (ht : P.underlying t = some (.array n e)) (h : DataW.trod enc P w base sp held fuel t cs = some (.agg ds, p)) :
    cs.length = P.cellsOf t ∧ ∀ (i : Nat) d, i < n → ds[i]? = some d → ∃ fu q, DataW.trod enc P w base sp held fu e ((cs.drop (i * P.cellsOf e)).take (P.cellsOf e)) = some (d, q) := by
  cases fuel with
  | zero => simp [DataW.trod] at h
  | succ fuel =>
    simp only [DataW.trod, ht] at h
    split at h
    · rename_i hl
      obtain ⟨xs, hm, hx⟩ := Option.map_eq_some_iff.1 h
      have hxs : xs.map (·.1) = ds := by
        have := congrArg Prod.fst hx
        simpa using this
      refine ⟨hl, fun i d hi hd => ?_⟩
      obtain ⟨b, hb, hfb⟩ := Lib.mapM_at hm i i (by simp [hi])
      have h2 : (xs.map (·.1))[i]? = some b.1 := by simp [hb]
      rw [hxs, hd] at h2
      exact ⟨fuel, b.2, by rw [hfb, Option.some.inj h2]⟩
    · cases h
theorem cellsI : Tryd.prog.cellsOf 3 = 1 := by kernel_rfl
theorem one_of {l : List Value} {i : Nat} {v : Value} (h : (l.drop i).take 1 = [v]) : l[i]? = some v := by
  have := congrArg (·[0]?) h
  simpa [List.getElem?_take, List.getElem?_drop] using this
theorem int_of {H : Type} {enc : TypeId × Value → H} {w : World} {base : Nat} {sp : Nat → Bool} {held : Bool} {fuel : Nat} {cs : List Value} {n : Int} {p : List MemPlace}
    (h : DataW.trod enc Tryd.prog w base sp held fuel 3 cs = some (.lit (.int .i64 n), p)) : cs = [.int .i64 n] := by
  obtain ⟨z, hc, hx, _⟩ := DataW.trod_int Tryd.underlying3 h
  cases hx
  exact hc
theorem cellsH : Tryd.prog.cellsOf 41 = 2 := by kernel_rfl
theorem cellsH4 : Tryd.prog.cellsOf 58 = 8 := by kernel_rfl
set_option maxRecDepth 100000 in
theorem hsize_of {H : Type} {enc : TypeId × Value → H} {w : World} {base : Nat} {sp : Nat → Bool} {held : Bool} {fuel : Nat} {cs : List Value} {a b : Int} {p : List MemPlace}
    (h : DataW.trod enc Tryd.prog w base sp held fuel 41 cs = some (.agg [.lit (.int .i64 a), .lit (.int .i64 b)], p)) : cs = [.int .i64 a, .int .i64 b] := by
  obtain ⟨hl, hf⟩ := trod_fields Tryd.underlying41 h
  obtain ⟨_, _, h0⟩ := hf 0 _ _ rfl rfl
  obtain ⟨_, _, h1⟩ := hf 1 _ _ rfl rfl
  have e0 := int_of h0
  have e1 := int_of h1
  simp only [cellsI] at e0 e1
  have hl := hl.trans cellsH
  have q0 := one_of e0
  have q1 := one_of e1
  match cs, hl with
  | [x, y], _ =>
    simp at q0 q1
    rw [q0, q1]
theorem gSizT : (Tryd.prog.globals[0]?).map (·.type) = some 58 := by kernel_rfl
set_option maxRecDepth 100000 in
theorem tb_of {W : World} (h : laidMetH Tryd.prog tabs W) : SizT W := by
  have h1 : laidMet Tryd.prog tabs W := h
  obtain ⟨ps, ⟨g', t', cs, fuel, p, q, hg', ht', hvar, hd, _, _⟩, _⟩ := h1
  obtain rfl := Option.some.inj (gSiz.symm.trans hg')
  obtain rfl := Option.some.inj (gSizT.symm.trans ht')
  unfold SizT Lib.TabIs
  rw [hvar]
  obtain ⟨hl, hf⟩ := trod_elems Tryd.underlying58 hd
  obtain ⟨_, _, h0⟩ := hf 0 _ (by decide) rfl
  obtain ⟨_, _, h1⟩ := hf 1 _ (by decide) rfl
  obtain ⟨_, _, h2⟩ := hf 2 _ (by decide) rfl
  obtain ⟨_, _, h3⟩ := hf 3 _ (by decide) rfl
  have e0 := hsize_of h0
  have e1 := hsize_of h1
  have e2 := hsize_of h2
  have e3 := hsize_of h3
  rw [cellsH] at e0 e1 e2 e3
  have hl := hl.trans cellsH4
  refine congrArg some (Array.toList_inj.1 ?_)
  generalize cs.toList = l at hl e0 e1 e2 e3
  match l, hl with
  | [x0, x1, x2, x3, x4, x5, x6, x7], _ =>
    simp at e0 e1 e2 e3
    rw [e0.1, e0.2, e1.1, e1.2, e2.1, e2.2, e3.1, e3.2]
    rfl

def put (k : IntKind) (zs : List Int) : Obj → Obj
  | .cells _ t frozen => .cells (zs.map (Value.int k)).toArray t frozen
  | o => o
def ofLit : DataW Unit → Int
  | .lit (.int _ n) => n
  | _ => 0
def ofTab (d : DataW Unit) : List Int := match d with
  | .agg l => l.map ofLit
  | _ => []
def ofTab2 (d : DataW Unit) : List Int := match d with
  | .agg l => (l.map ofTab).flatten
  | _ => []
/-- A world for a witness: the settled one, the table as its initialiser lays it. -/
noncomputable def laidWorld (os : Os) : World :=
  { World.holding Tryd.prog os ⟨#[], #[], []⟩ with heap := (World.holding Tryd.prog os ⟨#[], #[], []⟩).heap.modify 0 (put .i64 [24, 1, 25, 2, 26, 4, 27, 8]) }
theorem laid_met (os : Os) (args : Array Value) : laidMet Tryd.prog tabs ((laidWorld os).forCall (fun _ _ => 0) ⟨#[], args, []⟩).memory :=
  laidMet_of_run' 8 (by kernel_rfl) (by kernel_rfl)
end Go.Proofs.YtgaaiiacdeejfaaDoor
