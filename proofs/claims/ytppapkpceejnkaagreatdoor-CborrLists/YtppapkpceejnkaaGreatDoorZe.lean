/- A head as head.Read tells it (readT) and as items go by it (rdL). Lists of whatever is read; the leaves of CBOR (plain mathematics). errors.As, where the target is a fault and the error is one, or none. errors.As of a fault, where the target is one: true, and the target is that fault. -/
import Derived.Test.YtppapkpceejnkaaGreatDoorZc
import Derived.Test.YtppapkpceejnkaaGreatDoorZd
import Derived.Test.YtppapkpceejnkaaGreatDoorMc
import Derived.Test.YtppapkpceejnkaaGreatDoorChecked
import Derived.WalkKit
import Derived.LaidEql
import Derived.Stop.Asserts
import Derived.RowKitTokens
import Derived.Lib.Hide
namespace Go.Proofs.YtppapkpceejnkaaGreatDoor
open Go.RowKit

theorem argW_argV (k : Nat) (l : List UInt8) : argW k l = argV k l := rfl
theorem readT_rdL (s : ByteArray) : match rdL s.data.toList with
    | .error e => readT s = (0, 0, 0, s, (e : Int))
    | .ok (j, k, a, r) => ∃ t : ByteArray, t.data.toList = r ∧ readT s = (j, k, a, t, 0) ∧ (∃ n, 0 < n ∧ n ≤ s.size ∧ t = s.extract n s.size) ∧ j < 8 ∧ k < 32 := by
  cases hs : s.data.toList with
  | nil =>
    have h0 : s.size = 0 := by rw [← size_data, hs]; rfl
    show readT s = _
    rw [readT, if_pos h0]
    rfl
  | cons c l =>
    have hz : s.size = l.length + 1 := by rw [← size_data, hs, List.length_cons]
    have hc := c.toNat_lt
    rw [rdL_cons, readT_cons s c l hs]
    cases hn : nby (c.toNat % 32) with
    | none => rfl
    | some n =>
      simp only
      by_cases hl : l.length < n
      · rw [if_pos hl, if_pos hl]; rfl
      · rw [if_neg hl, if_neg hl]
        refine ⟨s.extract (1 + n) s.size, ?_, rfl, ⟨1 + n, by omega, by omega, rfl⟩, by omega, by omega⟩
        rw [ext_list, hs, Nat.add_comm 1 n, List.drop_succ_cons, hz, show l.length + 1 - (n + 1) = (l.drop n).length by rw [List.length_drop]; omega, List.take_length]
end Go.Proofs.YtppapkpceejnkaaGreatDoor
namespace Go.Proofs.YtppapkpceejnkaaGreatDoor
open Go.RowKit

abbrev Rg := List UInt8 → Res (Hd × Fo)
def lsF (g : Rg) : Nat → Option Nat → Bool → Bool → List UInt8 → Res Fo
  | 0, _, _, _, _ => .error 0
  | n + 1, c, p, o, l => if c = some 0 then .ok (.nil, l)
    else if c = none ∧ endsL l = true ∧ (p = false ∨ o = false) then .ok (.nil, l.tail)
    else match g l with
      | .error e => .error e
      | .ok ((h, f), r) => (match lsF g n (less c p o) p (!o) r with
        | .error e => .error e
        | .ok (t, q) => .ok (.cons h f t, q))
/-- What is read has bytes. -/
def Eats (g : Rg) : Prop := ∀ l x r, g l = .ok (x, r) → r.length < l.length
def lsL (g : Rg) (c : Option Nat) (p o : Bool) (l : List UInt8) : Res Fo := lsF g (l.length + 1) c p o l
section
variable {g : Rg}
theorem ls_enough (hg : Eats g) : ∀ (n n' : Nat) (c : Option Nat) (p o : Bool) (l : List UInt8), l.length < n → l.length < n' → lsF g n c p o l = lsF g n' c p o l
  | 0, _, _, _, _, _, h, _ => by omega
  | n + 1, n', c, p, o, l, h, h' => by
    obtain ⟨n', rfl⟩ : ∃ k, n' = k + 1 := ⟨n' - 1, by omega⟩
    rw [lsF, lsF]
    cases hi : g l with
    | error e => rfl
    | ok y =>
      obtain ⟨⟨h0, f0⟩, r⟩ := y
      have := hg _ _ _ hi
      simp only
      rw [ls_enough hg n n' (less c p o) p (!o) r (by omega) (by omega)]
theorem lsL_def (hg : Eats g) (c : Option Nat) (p o : Bool) (l : List UInt8) : lsL g c p o l = if c = some 0 then .ok (.nil, l)
    else if c = none ∧ endsL l = true ∧ (p = false ∨ o = false) then .ok (.nil, l.tail)
    else match g l with
      | .error e => .error e
      | .ok ((h, f), r) => (match lsL g (less c p o) p (!o) r with
        | .error e => .error e
        | .ok (t, q) => .ok (.cons h f t, q)) := by
  rw [lsL, lsF]
  cases hi : g l with
  | error e => rfl
  | ok y =>
    obtain ⟨⟨h0, f0⟩, r⟩ := y
    have := hg _ _ _ hi
    simp only
    rw [show lsF g l.length (less c p o) p (!o) r = lsL g (less c p o) p (!o) r from ls_enough hg _ _ _ _ _ _ (by omega) (by omega)]
/-- One by one there are no pairs. -/
theorem ls_o (hg : Eats g) : ∀ (n : Nat) (c : Option Nat) (o o' : Bool) (l : List UInt8), l.length < n → lsL g c false o l = lsL g c false o' l
  | 0, _, _, _, _, h => by omega
  | n + 1, c, o, o', l, h => by
    rw [lsL_def hg, lsL_def hg]
    cases hi : g l with
    | error e => simp
    | ok y =>
      obtain ⟨⟨h0, f0⟩, r⟩ := y
      have := hg _ _ _ hi
      simp only [less, true_or, if_true, and_true]
      rw [ls_o hg n (c.map (· - 1)) (!o) (!o') r (by omega)]
theorem app_asc : ∀ (f g h : Fo), (f.app g).app h = f.app (g.app h)
  | .nil, _, _ => rfl
  | .cons a b r, g, h => by simp only [Fo.app]; rw [app_asc r g h]
/-- Nodes in front of what is read. -/
def addR (f : Fo) : Res Fo → Res Fo
  | .error e => .error e
  | .ok (t, q) => .ok (f.app t, q)
theorem addR_nil (R : Res Fo) : addR .nil R = R := by cases R <;> rfl
theorem addR_cons (f : Fo) (h : Hd) (k : Fo) (R : Res Fo) : addR (f.app (.cons h k .nil)) R = addR f (match R with | .error e => .error e | .ok (t, q) => .ok (.cons h k t, q)) := by
  cases R with
  | error e => rfl
  | ok y =>
    obtain ⟨t, q⟩ := y
    show Except.ok ((f.app (.cons h k .nil)).app t, q) = .ok (f.app (.cons h k t), q)
    rw [app_asc]
    rfl
end
section
variable {F : Lf} {tg : Nat → Hd}
theorem itemL_eats (d : Nat) : Eats (itemL F tg d) := fun l _ _ h => item_len (show itemF F tg _ d l = _ from h)
theorem listL_ls (d : Nat) : ∀ (n : Nat) (c : Option Nat) (p o : Bool) (l : List UInt8), l.length < n → listL F tg d c p o l = lsL (itemL F tg d) c p o l
  | 0, _, _, _, _, h => by omega
  | n + 1, c, p, o, l, h => by
    rw [listL_def, lsL_def (itemL_eats d)]
    cases hi : itemL F tg d l with
    | error e => rfl
    | ok y =>
      obtain ⟨⟨h0, f0⟩, r⟩ := y
      have := itemL_eats d _ _ _ hi
      simp only
      rw [listL_ls d n _ _ _ r (by omega)]
      rfl
/-- A chunk. -/
def chunkI (F : Lf) (m : Nat) : Rg := fun l => match rdL l with
  | .error e => .error (hE e)
  | .ok (j, k, a, r) => if j ≠ m ∨ k = 31 then .error 110 else if r.length < a then .error 100 else .ok ((F.str m (r.take a), .nil), r.drop a)
theorem chunkI_eats (m : Nat) : Eats (chunkI F m) := by
  intro l x r h
  unfold chunkI at h
  cases hr : rdL l with
  | error e => rw [hr] at h; cases h
  | ok y =>
    obtain ⟨j, k, a, s⟩ := y
    have hl := rdL_len hr
    rw [hr] at h
    simp only at h
    split at h
    · cases h
    · split at h
      · cases h
      · cases h
        rw [List.length_drop]; omega
/-- The bytes of nodes one behind the other. -/
def joinS : Fo → List UInt8
  | .nil => []
  | .cons h _ r => h.s.data.toList ++ joinS r
theorem joinS_app : ∀ (f t : Fo), joinS (f.app t) = joinS f ++ joinS t
  | .nil, t => rfl
  | .cons h k r, t => by
    show h.s.data.toList ++ joinS (r.app t) = (h.s.data.toList ++ joinS r) ++ joinS t
    rw [joinS_app r t, List.append_assoc]
theorem chunks_ls (hs : ∀ m t, (F.str m t).s.data.toList = t) (m : Nat) : ∀ (n : Nat) (l : List UInt8), l.length < n → chunksL m l = match lsL (chunkI F m) none false false l with
    | .error e => .error e
    | .ok (f, q) => .ok (joinS f, q)
  | 0, _, h => by omega
  | n + 1, l, h => by
    rw [chunksL_def, lsL_def (chunkI_eats m), if_neg (show ¬ (none : Option Nat) = some 0 by simp)]
    by_cases he : endsL l = true
    · rw [if_pos he, if_pos ⟨rfl, he, .inl rfl⟩]
      rfl
    · rw [if_neg he, if_neg (by simp [he])]
      cases hr : rdL l with
      | error e => simp only [chunkI, hr]
      | ok y =>
        obtain ⟨j, k, a, s⟩ := y
        have hl := rdL_len hr
        simp only [chunkI, hr]
        by_cases h1 : j ≠ m ∨ k = 31
        · rw [if_pos h1, if_pos h1]
        · rw [if_neg h1, if_neg h1]
          by_cases h2 : s.length < a
          · rw [if_pos h2, if_pos h2]
          · rw [if_neg h2, if_neg h2]
            simp only
            rw [chunks_ls hs m n (s.drop a) (by rw [List.length_drop]; omega), show less none false false = none from rfl, ls_o (chunkI_eats m) _ none (!false) false _ (Nat.lt_succ_self _)]
            cases hq : lsL (chunkI F m) none false false (s.drop a) with
            | error e => rfl
            | ok y =>
              obtain ⟨t, q⟩ := y
              simp only [joinS, hs]
end
/-- What a head has. -/
theorem rdL_lt {l : List UInt8} {j k a : Nat} {r : List UInt8} (h : rdL l = .ok (j, k, a, r)) : j < 8 ∧ k < 32 ∧ a < 18446744073709551616 ∧ (k < 24 → a = k) ∧ (k = 31 → a = 0) := by
  cases l with
  | nil => cases h
  | cons c s =>
    rw [rdL_cons] at h
    cases hn : nby (c.toNat % 32) with
    | none => rw [hn] at h; cases h
    | some n =>
      rw [hn] at h
      simp only at h
      split at h
      · cases h
      · rename_i hl
        simp only [Except.ok.injEq, Prod.mk.injEq] at h
        obtain ⟨rfl, rfl, rfl, rfl⟩ := h
        have hc := c.toNat_lt
        have hlen : (s.take n).length = n := by rw [List.length_take]; omega
        have hv := valQ_lt (s.take n)
        rw [hlen] at hv
        have hn8 : n ≤ 8 := by
          unfold nby at hn
          repeat' split at hn
          all_goals first
            | (cases hn; omega)
            | cases hn
        have hp : 256 ^ n ≤ 256 ^ 8 := Nat.pow_le_pow_right (by decide) hn8
        have h8 : (256 : Nat) ^ 8 = 18446744073709551616 := by decide
        refine ⟨by omega, by omega, ?_, fun h => by rw [argW, if_pos h], fun h => ?_⟩
        · unfold argW
          split <;> omega
        · have h0 : n = 0 := by
            rw [h] at hn
            have : (nby 31) = some 0 := rfl
            rw [this] at hn
            cases hn; rfl
          rw [argW, if_neg (by omega), h0]
          rfl
/-! The leaves of CBOR. -/
def numH (n : Bool) (a : Nat) : Hd := ⟨3, false, dN (makeR n (Lib.decDigits a) 0), dS (makeR n (Lib.decDigits a) 0), dX (makeR n (Lib.decDigits a) 0), 0, 0, ⟨#[]⟩⟩
def strH (j : Nat) (t : List UInt8) : Hd := ⟨if j = 2 then 6 else 5, false, false, ⟨#[]⟩, 0, 0, 0, ⟨t.toArray⟩⟩
def boolH (b : Bool) : Hd := ⟨2, b, false, ⟨#[]⟩, 0, 0, 0, ⟨#[]⟩⟩
def nullH : Hd := ⟨1, false, false, ⟨#[]⟩, 0, 0, 0, ⟨#[]⟩⟩
def floH (w : Int) (a : Nat) : Hd := ⟨4, false, false, ⟨#[]⟩, 0, a, w, ⟨#[]⟩⟩
def simH (a : Nat) : Hd := ⟨10, false, false, ⟨#[]⟩, 0, a, 0, ⟨#[]⟩⟩
def tgC (a : Nat) : Hd := ⟨9, false, false, ⟨#[]⟩, 0, a, 0, ⟨#[]⟩⟩
def othH (k a : Nat) : Option Hd :=
  if k = 31 ∨ (k = 24 ∧ a < 32) then none
  else if k = 20 ∨ k = 21 then some (boolH (k == 21))
  else if k = 22 then some nullH
  else if 25 ≤ k ∧ k ≤ 27 then some (floH (if k = 25 then 16 else if k = 26 then 32 else 64) a)
  else some (simH a)
def FC : Lf := ⟨numH false, fun a => numH true (a + 1), strH, othH⟩
theorem hFC (a : Nat) : FC.oth 31 a = none := by show othH 31 a = none; rw [othH, if_pos (.inl rfl)]
theorem sFC (m : Nat) (t : List UInt8) : (FC.str m t).s.data.toList = t := by show (List.toArray t).toList = t; simp
/-- What cborr.Item reads. -/
abbrev itC (d : Nat) (l : List UInt8) : Res (Hd × Fo) := itemL FC tgC d l
end Go.Proofs.YtppapkpceejnkaaGreatDoor
namespace Go.Proofs.YtppapkpceejnkaaGreatDoor
open Go.RowKit Go.Extern.Stop Go.Stop Go.Extern

/-- errors.As of no error. -/
theorem as_nil (t : Value) (w : World) : Calls Tryz.prog 31 #[.nilIface, t] w fun e w' => e = .returned (.bool false) ∧ w' = w := by
  go_enter Tryz.func31, Tryz.ntmps31
  go_wp2
  go_ret
  exact ⟨rfl, rfl⟩
abbrev rtC (T : TypeId) : Value := .pointer (some ⟨13, T, none⟩)
abbrev pfC (a : Addr) : Value := .agg #[rtC 63, .pointer (some a), .int .u64 150]
abbrev efC (a : Addr) : Value := .agg #[rtC 61, .pointer (some a), .int .u64 409]
abbrev ffC (a : Addr) : Value := .agg #[rtC 61, .pointer (some a), .int .u64 153]
theorem asVal (t : Addr) (w : World) : (ReflectliteValue.unpack (.iface 63 (.pointer (some t)))).run Tryz.prog w
    = .ok (pfC ⟨w.heap.size, 0, none⟩) (w.alloc (.cells #[.pointer (some t)] 63)) := by kernel_rfl
theorem asType (a : Addr) (w : World) : (ReflectliteValue.methodAny (ReflectliteValue.valueError "reflectlite.Value.Type" 0) (fun t _ _ _ => ReflectliteType.toType t) #[pfC a]).run Tryz.prog w
    = .ok (.iface 144 (.agg #[rtC 63])) w := by kernel_rfl
theorem asMKind (h : Value) (w : World) : (Go.method 451 144 (.agg #[h]) "Kind").run Tryz.prog w = .ok (274, h) w := by kernel_rfl
theorem asKindP (w : World) : ((ReflectliteType.abiMethod fun t => (fun a : Nat => Value.int IntKind.u8 (a : Int)) <$> Rtype.kind t) #[rtC 63]).run Tryz.prog w = .ok (.int .u8 22) w := by kernel_rfl
theorem asKindF (w : World) : ((ReflectliteType.abiMethod fun t => (fun a : Nat => Value.int IntKind.u8 (a : Int)) <$> Rtype.kind t) #[rtC 61]).run Tryz.prog w = .ok (.int .u8 25) w := by kernel_rfl
/-- How a method of a Value goes on. -/
theorem asGo (z : Sem Value) (f : TypeId → Addr → Nat → Nat → Sem Value) : ∃ K : Option (TypeId × Addr × Nat) → Sem Value, (∀ v, ReflectliteValue.method z f #[v] = ReflectliteValue.parts v >>= K) ∧ ∀ t a fl, K (some (t, a, fl)) = f t a fl (fl % 32) :=
  ⟨_, fun _ => rfl, fun _ _ _ => rfl⟩
theorem asRun {z : Sem Value} {f : TypeId → Addr → Nat → Nat → Sem Value} {v : Value} {t : TypeId} {a : Addr} {fl : Nat} {W : World} (h : (ReflectliteValue.parts v).run Tryz.prog W = .ok (some (t, a, fl)) W) :
    (ReflectliteValue.method z f #[v]).run Tryz.prog W = (f t a fl (fl % 32)).run Tryz.prog W := by
  obtain ⟨K, h1, h2⟩ := asGo z f
  rw [h1, Sem.run_bind, h]
  simp only [Result.andThen, h2]
theorem asPartsP (a : Addr) (w : World) : (ReflectliteValue.parts (pfC a)).run Tryz.prog w = .ok (some (63, a, 150)) w := by kernel_rfl
theorem asIsNil (a p : Addr) (W : World) (ha : W.cell? a = some (.pointer (some p))) :
    (ReflectliteValue.method (ReflectliteValue.valueError "reflectlite.Value.IsNil" 0) ReflectliteValue.isNil #[pfC a]).run Tryz.prog W = .ok (.bool false) W := by
  rw [asRun (asPartsP a W)]
  simp [ReflectliteValue.isNil, loadVar, isAgg, underlying, Tryz.underlying63, ha, Result.andThen]
theorem asMElem (h : Value) (w : World) : (Go.method 451 144 (.agg #[h]) "Elem").run Tryz.prog w = .ok (285, .agg #[h]) w := by kernel_rfl
theorem asMImpl (h : Value) (w : World) : (Go.method 451 144 (.agg #[h]) "Implements").run Tryz.prog w = .ok (286, .agg #[h]) w := by kernel_rfl
theorem asMAssign (h : Value) (w : World) : (Go.method 451 144 (.agg #[h]) "AssignableTo").run Tryz.prog w = .ok (283, .agg #[h]) w := by kernel_rfl
theorem asElem (w : World) : (ReflectliteType.method ReflectliteType.elem #[.agg #[rtC 63]]).run Tryz.prog w = .ok (.iface 144 (.agg #[rtC 61])) w := by kernel_rfl
theorem asImpl (w : World) : (ReflectliteType.relation "Implements" ReflectliteType.implements_ #[.agg #[rtC 61], .iface 144 (.agg #[rtC 57])]).run Tryz.prog w = .ok (.bool true) w := by kernel_rfl
theorem asTypeOf (v : Value) (w : World) : (ReflectliteType.typeOf #[.iface 61 v]).run Tryz.prog w = .ok (.iface 144 (.agg #[rtC 61])) w := by kernel_rfl
theorem asAssign (w : World) : (ReflectliteType.relation "AssignableTo" ReflectliteType.assignableTo #[.agg #[rtC 61], .iface 144 (.agg #[rtC 61])]).run Tryz.prog w = .ok (.bool true) w := by kernel_rfl
theorem asValF (e : Int) (w : World) : (ReflectliteValue.unpack (.iface 61 (.agg #[.int .i64 e]))).run Tryz.prog w
    = .ok (ffC ⟨w.heap.size, 0, none⟩) (w.alloc (.cells #[.int .i64 e] 61)) := by kernel_rfl
theorem asElemOf (w : World) : (Rtype.elem? 63).run Tryz.prog w = .ok (some 61) w := by kernel_rfl
theorem asMk (p : Addr) (w : World) : (ReflectliteValue.mk 61 p ReflectliteValue.flagAddr).run Tryz.prog w = .ok (efC p) w := by kernel_rfl
theorem asElemV (a p : Addr) (W : World) (ha : W.cell? a = some (.pointer (some p))) :
    (ReflectliteValue.method (ReflectliteValue.valueError "reflectlite.Value.Elem" 0) ReflectliteValue.elem #[pfC a]).run Tryz.prog W = .ok (efC p) W := by
  rw [asRun (asPartsP a W)]
  simp [ReflectliteValue.elem, loadVar, isAgg, underlying, Tryz.underlying63, ha, Result.andThen, asElemOf, asMk]
theorem asPartsE (a : Addr) (w : World) : (ReflectliteValue.parts (efC a)).run Tryz.prog w = .ok (some (61, a, 409)) w := by kernel_rfl
theorem asPartsF (a : Addr) (w : World) : (ReflectliteValue.parts (ffC a)).run Tryz.prog w = .ok (some (61, a, 153)) w := by kernel_rfl
theorem asDirect (w : World) : (Rtype.directlyAssignable 61 61).run Tryz.prog w = .ok true w := by kernel_rfl
theorem asCells (b : Addr) (e : Int) (W : World) (hb : W.cell? b = some (.int .i64 e)) : (loadCells b 1).run Tryz.prog W = .ok #[.int .i64 e] W := by
  simp [loadCells, loadCellsFrom, Addr.add, hb, Result.andThen]
theorem asLoad (b : Addr) (e : Int) (W : World) (hb : W.cell? b = some (.int .i64 e)) : (loadVar 61 b).run Tryz.prog W = .ok (.agg #[.int .i64 e]) W := by
  simp [loadVar, isAgg, underlying, Tryz.underlying61, Result.andThen, asCells b e W hb]
theorem asStore (b : Addr) (e : Int) (old : Value) (W : World) (ht : W.cell? b = some old) (hf : W.frozen? b = false) : (storeVar 61 b (.agg #[.int .i64 e])).run Tryz.prog W = .ok () (W.setCell b (.int .i64 e)) := by
  simp [storeVar, Value.cells, storeCells, Addr.add]
  rw [run_store Tryz.prog W b _ _ (by rfl)]
  simp [ht, hf]
/-- How a Value is set where its type is the other's. -/
theorem asSets : ∃ (K : Option (TypeId × Addr × Nat) → Option (TypeId × Addr × Nat) → Sem Value) (L : TypeId → TypeId → Addr → Value → Sem Value), (∀ v x, ReflectliteValue.set #[v, x] = ReflectliteValue.parts v >>= fun p => ReflectliteValue.parts x >>= fun q => K p q) ∧
    ∀ d a s c g, K (some (d, a, 409)) (some (s, c, g)) = loadVar s c >>= fun val => Rtype.directlyAssignable d s >>= fun t => if t then storeVar d a val >>= fun _ => pure (.tuple #[]) else L d s a val :=
  ⟨_, _, fun _ _ => rfl, fun _ _ _ _ _ => rfl⟩
theorem asSet (ta b : Addr) (e : Int) (old : Value) (W : World) (hb : W.cell? b = some (.int .i64 e)) (ht : W.cell? ta = some old) (hf : W.frozen? ta = false) :
    (ReflectliteValue.set #[efC ta, ffC b]).run Tryz.prog W = .ok (.tuple #[]) (W.setCell ta (.int .i64 e)) := by
  obtain ⟨K, L, h1, h2⟩ := asSets
  rw [h1]
  simp only [Sem.run_bind, asPartsE, asPartsF, Result.andThen, h2, asLoad b e W hb, asDirect, if_true, asStore ta e old W ht hf]
  rfl
end Go.Proofs.YtppapkpceejnkaaGreatDoor
namespace Go.Proofs.YtppapkpceejnkaaGreatDoor
open Go.RowKit Go.Extern.Stop Go.Stop Go.Extern

/-- The variable errors.errorType. -/
def ErT (w : World) : Prop := w.cell? ⟨2, 0, none⟩ = some (.iface 144 (.agg #[rtC 57]))
abbrev fltV (e : Int) : Value := .iface 61 (.agg #[.int .i64 e])
/-- The four blocks that are laid. -/
def asW (t : Addr) (e : Int) (w : World) : World := (((w.alloc (.cells #[.pointer (some t)] 63)).alloc (.cells #[rtC 63, .pointer (some ⟨w.heap.size, 0, none⟩), .int .u64 150] 92)).alloc (.cells #[rtC 63, .pointer (some ⟨w.heap.size, 0, none⟩), .int .u64 150] 92)).alloc (.cells #[.int .i64 e] 61)
set_option maxHeartbeats 4000000 in
set_option maxRecDepth 100000 in
theorem as_hit (t : Addr) (e : Int) (old : Value) (w : World) (hg : ErT w) (ht0 : w.cell? t = some old) (hf0 : w.frozen? t = false) :
    Calls Tryz.prog 31 #[fltV e, .iface 63 (.pointer (some t))] w fun ev w' => ev = .returned (.bool true) ∧ w' = (asW t e w).setCell t (.int .i64 e) := by
  have h6 := @run_callFunc_extern Tryz.prog 48 _ (fun args => ReflectliteValue.unpack (args.getD 0 (.tuple #[]))) Tryz.func48 (by kernel_rfl) (by kernel_rfl) (by kernel_rfl) (by kernel_rfl)
  have h7 := @run_callFunc_extern Tryz.prog 49 _ (ReflectliteValue.methodAny (ReflectliteValue.valueError "reflectlite.Value.Type" 0) (fun t _ _ _ => ReflectliteType.toType t)) Tryz.func49 (by kernel_rfl) (by kernel_rfl) (by kernel_rfl) (by kernel_rfl)
  have h8 := @run_callFunc_extern Tryz.prog 50 _ (ReflectliteValue.method (ReflectliteValue.valueError "reflectlite.Value.IsNil" 0) ReflectliteValue.isNil) Tryz.func50 (by kernel_rfl) (by kernel_rfl) (by kernel_rfl) (by kernel_rfl)
  have h27 := @run_callFunc_extern Tryz.prog 274 _ (ReflectliteType.abiMethod fun t => do pure (.int .u8 (← Rtype.kind t))) Tryz.func274 (by kernel_rfl) (by kernel_rfl) (by kernel_rfl) (by kernel_rfl)
  have h37 := @run_callFunc_extern Tryz.prog 285 _ (ReflectliteType.method ReflectliteType.elem) Tryz.func285 (by kernel_rfl) (by kernel_rfl) (by kernel_rfl) (by kernel_rfl)
  have h38 := @run_callFunc_extern Tryz.prog 286 _ (ReflectliteType.relation "Implements" ReflectliteType.implements_) Tryz.func286 (by kernel_rfl) (by kernel_rfl) (by kernel_rfl) (by kernel_rfl)
  have h10 := @run_callFunc_extern Tryz.prog 57 _ ReflectliteType.typeOf Tryz.func57 (by kernel_rfl) (by kernel_rfl) (by kernel_rfl) (by kernel_rfl)
  have h35 := @run_callFunc_extern Tryz.prog 283 _ (ReflectliteType.relation "AssignableTo" ReflectliteType.assignableTo) Tryz.func283 (by kernel_rfl) (by kernel_rfl) (by kernel_rfl) (by kernel_rfl)
  have h11 := @run_callFunc_extern Tryz.prog 78 _ (ReflectliteValue.method (ReflectliteValue.valueError "reflectlite.Value.Elem" 0) ReflectliteValue.elem) Tryz.func78 (by kernel_rfl) (by kernel_rfl) (by kernel_rfl) (by kernel_rfl)
  have h12 := @run_callFunc_extern Tryz.prog 79 _ ReflectliteValue.set Tryz.func79 (by kernel_rfl) (by kernel_rfl) (by kernel_rfl) (by kernel_rfl)
  have tO := asTypeOf
  have mA := asMAssign
  have a25 := asAssign
  have v25 := asValF
  have f6 := asVal
  have f7 := asType
  have mK := asMKind
  have mE := asMElem
  have mI := asMImpl
  have k27 := asKindP
  have k25 := asKindF
  have e27 := asElem
  have i25 := asImpl
  have n8 := asIsNil ⟨w.heap.size, 0, none⟩ t ((w.alloc (.cells #[.pointer (some t)] 63)).alloc (.cells #[rtC 63, .pointer (some ⟨w.heap.size, 0, none⟩), .int .u64 150] 92)) (by simp)
  have hlt : 2 < w.heap.size := by
    rcases Nat.lt_or_ge 2 w.heap.size with h | h
    · exact h
    · simp [ErT, World.cell?, Array.getElem?_eq_none h] at hg
  have hg2 : ((w.alloc (.cells #[.pointer (some t)] 63)).alloc (.cells #[rtC 63, .pointer (some ⟨w.heap.size, 0, none⟩), .int .u64 150] 92)).cell? ⟨2, 0, none⟩ = some (.iface 144 (.agg #[rtC 57])) := by
    rw [World.cell?_alloc_lt _ _ ⟨2, 0, none⟩ (by simp; omega), World.cell?_alloc_lt _ _ ⟨2, 0, none⟩ hlt]; exact hg
  have htl : t.block < w.heap.size := by
    rcases Nat.lt_or_ge t.block w.heap.size with h | h
    · exact h
    · simp [World.cell?, Array.getElem?_eq_none h] at ht0
  have el := asElemV ⟨w.heap.size, 0, none⟩ t (((w.alloc (.cells #[.pointer (some t)] 63)).alloc (.cells #[rtC 63, .pointer (some ⟨w.heap.size, 0, none⟩), .int .u64 150] 92)).alloc (.cells #[rtC 63, .pointer (some ⟨w.heap.size, 0, none⟩), .int .u64 150] 92)) (by rw [World.cell?_alloc_lt _ _ ⟨w.heap.size, 0, none⟩ (by simp; omega)]; simp)
  have st := asSet t ⟨w.heap.size + 1 + 1 + 1, 0, none⟩ e old (asW t e w)
    (by unfold asW; rw [World.cell?_alloc_at _ _ _ _ (by simp)]; rfl)
    (by unfold asW; rw [World.cell?_alloc_lt _ _ t (by simp; omega), World.cell?_alloc_lt _ _ t (by simp; omega), World.cell?_alloc_lt _ _ t (by simp; omega), World.cell?_alloc_lt _ _ t htl]; exact ht0)
    (by unfold asW; rw [World.frozen?_alloc_old _ _ t (by simp; omega), World.frozen?_alloc_old _ _ t (by simp; omega), World.frozen?_alloc_old _ _ t (by simp; omega), World.frozen?_alloc_old _ _ t (Nat.ne_of_lt htl)]; exact hf0)
  unfold asW at st ⊢
  go_enter Tryz.func31, Tryz.ntmps31
  go_wp2
  refine wp_loop_rounds 1 ?_
  rw [rounds_succ]
  go_wp2
  go_ret
  exact ⟨rfl, rfl⟩
end Go.Proofs.YtppapkpceejnkaaGreatDoor
