/- A range over a function that turns blocks of its own between two rounds: its run is told whole. The iterator through: what it yields, what it keeps (words). -/
import Derived.RangeFuncNested
import Derived.Test.YtppapkpceejnkaaGreatDoorZh
import Derived.Test.YtppapkpceejnkaaGreatDoorMj
namespace Go.Proofs.YtppapkpceejnkaaGreatDoor
open Go.RowKit

variable {F : Fence} {n : Nat} {P : Program}
/-- How the body of a round may be left. -/
def endP {α : Type} (B : Nat) (I : List α → World → Prop) (Ix : α → Code → World → Prop) (xs : List α) (x : α) (W : World) : Exit → Act → World → Prop
  | .normal, _, W' => KeepsFrom B W W' ∧ I (xs ++ [x]) W'
  | .ret, _, W' => KeepsFrom B W W' ∧ Ix x .ret W'
  | .exit id, _, W' => KeepsFrom B W W' ∧ Ix x (.exit id) W'
  | .goto t, _, W' => KeepsFrom B W W' ∧ Ix x (.goto t) W'
  | .panic _, _, _ => False
  | .outgrown, _, _ => False
/-- What is to be shown of the iterator's run: B, Bx are the loop's own notes, which abide all that turns no object but cells. -/
def RunsAt {α : Type} (F : Fence) (n : Nat) (P : Program) (gf : Nat) (lb : Array Value) (enc : α → Array Value) (b0 : Nat) (I : List α → World → Prop) (Y : List α → α → World → Prop) (Ix : α → Code → World → Prop) (Done : World → Prop) (Left : Code → World → Prop) (W1 : World) : Prop :=
  ∀ (l : Nat) (B : World → Prop) (Bx : Code → World → Prop), (∀ X Z, B X → KeepsFrom b0 X Z → B Z) → (∀ c X Z, Bx c X → KeepsFrom b0 X Z → Bx c Z) →
    (∀ pre x W, Y pre x W → B W → YieldAt F (n - 1) P l (enc x) W fun e W' => (e = .returned (.bool true) ∧ B W' ∧ I (pre ++ [x]) W') ∨ (e = .returned (.bool false) ∧ ∃ c, Bx c W' ∧ Ix x c W')) →
    B W1 → I [] W1 → CallsIn F n P gf (#[.func (.yield l) #[] #[]] ++ lb) W1 fun e W' => (∃ v, e = .returned v) ∧ ((B W' ∧ Done W') ∨ ∃ c, Bx c W' ∧ Left c W')

theorem wpIn_range_run {α : Type} {g : Operand} {ps : Array Tmp} {assign body : Code} {Q : Exit → Act → World → Prop} {a : Act} {w : World}
    (hro : F.round = none) (h1 : 1 ≤ n) {gf : Nat} {lb : Array Value} (hg : a.eval g = .func (.func gf) #[] lb) (hFg : F.fn gf) (eg : ∀ args w, (callFunc gf args).run P w = .ok (.enter gf args) w)
    {enc : α → Array Value} (hps : ∀ x, (enc x).size = ps.size)
    (I : List α → World → Prop) (Y : List α → α → World → Prop) (Ix : α → Code → World → Prop) (Done : World → Prop) (Left : Code → World → Prop) (Ax : List α → α → Act → World → Prop)
    (hI : OwnFrom w.heap.size I) (hIx : ∀ x c, OwnFrom w.heap.size (fun (_ : Unit) W => Ix x c W)) (hD : OwnFrom w.heap.size (fun (_ : Unit) W => Done W)) (hL : ∀ c, OwnFrom w.heap.size (fun (_ : Unit) W => Left c W))
    (hAx : ∀ pre x a', OwnFrom w.heap.size (fun (_ : Unit) W => Ax pre x a' W)) (h0 : I [] w)
    (hassign : ∀ (l : Nat) (pre : List α) (x : α) (W : World) (K : Act → World → Prop), Y pre x W → (∀ a' W', KeepsFrom w.heap.size W W' → Ax pre x a' W' → K a' W') →
      assign.wpIn (F.inRound l) (n - 1 - 1) P (Exit.then K (fun _ _ _ => False)) { tmps := (ps.zip (enc x)).foldl (fun t (p, v) => t.setIfInBounds p v) a.tmps, defers := [] } W)
    (hbody : ∀ (l : Nat) (pre : List α) (x : α) (a' : Act) (W : World), w.heap.size ≤ l → Ax pre x a' W → body.wpIn (F.inRound l) (n - 1 - 1) P (endP w.heap.size I Ix pre x W) a' W)
    (hrun : ∀ W1, w.heap.size ≤ W1.heap.size → I [] W1 → RunsAt F (n - 1) P gf lb enc w.heap.size I Y Ix Done Left W1)
    (hdone : ∀ (D : Nat) (W : World), w.heap.size ≤ D → Done W → W.heap[D]? = some (.deferred (some [])) → Q .normal { a with defers := { target := .collected D, args := #[] } :: a.defers } W)
    (hstop : ∀ (D : Nat) (c : Code) (W : World), w.heap.size ≤ D → Left c W → W.heap[D]? = some (.deferred (some [])) → c.wpIn F n P Q { a with defers := { target := .collected D, args := #[] } :: a.defers } W) :
    (Code.rangeFunc g ps assign body).wpIn F n P Q a w := by
  refine wpIn_rangeFunc fun fn hfn => ?_
  rw [hro]
  obtain ⟨d, hd⟩ : ∃ d, d = w.heap.size := ⟨_, rfl⟩
  obtain ⟨rec, hrec⟩ : ∃ rec : LoopState → Option Code → Loop, rec = fun st pe => { state := st, pending := pe, fn, tmps := a.tmps, params := ps, assign, body, defers := d } := ⟨_, rfl⟩
  obtain ⟨V, hV⟩ : ∃ V, V = (w.alloc (.deferred (some []))).alloc (.loop (rec .ready none)) := ⟨_, rfl⟩
  have vs : V.heap.size = d + 2 := by rw [hV, hd]; simp
  have vl : V.heap[d + 1]? = some (.loop (rec .ready none)) := by
    rw [hV, hd]; have := World.alloc_heap_new (w.alloc (.deferred (some []))) (.loop (rec .ready none)); rwa [World.size_alloc] at this
  have vd : V.heap[d]? = some (.deferred (some [])) := by
    rw [hV, hd]; exact (Below.heap_alloc _ _ _ (by simp)).trans (World.alloc_heap_new w _)
  have vi : I [] V := by rw [hV]; exact hI.alloc _ (hI.alloc _ h0)
  have vent : (Instr.enterLoop fn a.tmps ps assign body none).run P w = .ok (d + 1, [{ target := .collected d, args := #[] }]) V := by
    rw [hV, hrec, hd]; exact run_enterLoop_outer _ _ _ _ _
  have hle : w.heap.size ≤ d := by omega
  have hle1 : w.heap.size ≤ d + 1 := by omega
  -- what the loop notes
  have abid : ∀ (o : Obj) (k : Nat), o.isCells = false → w.heap.size ≤ k → ∀ X Z : World, X.heap[k]? = some o → KeepsFrom w.heap.size X Z → Z.heap[k]? = some o := fun o k ho hk X Z h hz => hz.same k o hk h ho
  -- a round's end
  have fin : ∀ (j : Option Code) (X : World), X.heap[d + 1]? = some (.loop { rec .ready none with state := .busy }) → X.heap[d]? = some (.deferred (some [])) →
      (Instr.endRound (d + 1) j).run P X = .ok (.bool j.isNone) (X.putObj (d + 1) (.loop (rec (if j.isNone then .ready else .done) j))) ∧
      (X.putObj (d + 1) (.loop (rec (if j.isNone then .ready else .done) j))).heap[d + 1]? = some (.loop (rec (if j.isNone then .ready else .done) j)) ∧
      (X.putObj (d + 1) (.loop (rec (if j.isNone then .ready else .done) j))).heap[d]? = some (.deferred (some [])) := fun j X hl hk => by
    refine ⟨?_, World.putObj_heap_same (Array.getElem?_eq_some_iff.1 hl).1, (World.putObj_heap_other (by omega)).trans hk⟩
    have := run_endRound (P := P) j hl
    rw [hrec] at this ⊢
    exact this
  refine ⟨d + 1, [{ target := .collected d, args := #[] }], V, { target := .fn (.func gf) lb, args := #[.func (.yield (d + 1)) #[] #[]] }, V, gf, #[.func (.yield (d + 1)) #[] #[]] ++ lb, V, vent, ?_, ?_, ?_, fun _ => h1, ?_⟩
  · simp only [resolve, hg]
    simp [go_sem]
  · intro f' hf'
    simp [Target.leads] at hf'
    subst hf'
    exact hFg
  · simp [invoke, go_sem, eg]
  have run := hrun V (by omega) vi (d + 1)
    (fun X => X.heap[d + 1]? = some (.loop (rec .ready none)) ∧ X.heap[d]? = some (.deferred (some [])))
    (fun c X => X.heap[d + 1]? = some (.loop (rec .done (some c))) ∧ X.heap[d]? = some (.deferred (some [])))
    (fun X Z h hz => ⟨abid _ _ rfl hle1 X Z h.1 hz, abid _ _ rfl hle X Z h.2 hz⟩)
    (fun c X Z h hz => ⟨abid _ _ rfl hle1 X Z h.1 hz, abid _ _ rfl hle X Z h.2 hz⟩)
    ?_ ⟨vl, vd⟩ vi
  · refine run.mono ?_
    rintro e Z ⟨⟨v, rfl⟩, ⟨⟨hl, hk⟩, hdn⟩ | ⟨c, ⟨hl, hk⟩, hlf⟩⟩
    · refine ⟨none, Z.putObj (d + 1) (.loop { rec .ready none with state := .exhausted }), ?_, ?_⟩
      · have := run_endLoop (P := P) hl (by rw [hrec]; simp)
        rw [hrec] at this ⊢
        exact this
      · have := hdone d _ hle (hD.putObj (s := ()) (.loop { rec .ready none with state := .exhausted }) hdn hle1 hl rfl) ((World.putObj_heap_other (by omega)).trans hk)
        exact this
    · refine ⟨some c, Z.putObj (d + 1) (.loop { rec .done (some c) with state := .exhausted }), ?_, ?_⟩
      · have := run_endLoop (P := P) hl (by rw [hrec]; simp)
        rw [hrec] at this ⊢
        exact this
      · have := hstop d c _ hle ((hL c).putObj (s := ()) (.loop { rec .done (some c) with state := .exhausted }) hlf hle1 hl rfl) ((World.putObj_heap_other (by omega)).trans hk)
        exact this
  · rintro pre x X hY ⟨hl, hk⟩
    have hy := run_yield (P := P) (args := enc x) hl (by rw [hrec]; exact hps x)
    rw [hrec] at hy
    refine ⟨fn, _, assign, body, hy, roundIn_of_wpIn hfn (hassign _ pre x X _ hY ?_)⟩
    clear hy
    intro a' Xa hka hax
    have hl2 := abid _ _ rfl hle1 X Xa hl hka
    have hk2 := abid _ _ rfl hle X Xa hk hka
    refine ⟨_, run_beginRound hl2 (by rw [hrec]), ?_⟩
    have hl3 : (Xa.putObj (d + 1) (.loop { rec .ready none with state := .busy })).heap[d + 1]? = some (.loop { rec .ready none with state := .busy }) := World.putObj_heap_same (Array.getElem?_eq_some_iff.1 hl2).1
    have hk3 : (Xa.putObj (d + 1) (.loop { rec .ready none with state := .busy })).heap[d]? = some (.deferred (some [])) := (World.putObj_heap_other (by omega)).trans hk2
    refine wpIn_mono (hbody (d + 1) pre x a' _ hle1 ((hAx pre x a').putObj (s := ()) _ hax hle1 hl2 rfl)) ?_
    rintro e a3 W3 hp
    cases e with
    | normal =>
      obtain ⟨hk5, hi⟩ := hp
      have h6 := abid _ _ rfl hle1 _ W3 hl3 hk5
      obtain ⟨f1, f2, f3⟩ := fin none W3 h6 (abid _ _ rfl hle _ W3 hk3 hk5)
      exact ⟨_, _, f1, .inl ⟨rfl, ⟨f2, f3⟩, hI.putObj _ hi hle1 h6 rfl⟩⟩
    | ret =>
      obtain ⟨hk5, hi⟩ := hp
      have h6 := abid _ _ rfl hle1 _ W3 hl3 hk5
      obtain ⟨f1, f2, f3⟩ := fin (some .ret) W3 h6 (abid _ _ rfl hle _ W3 hk3 hk5)
      exact ⟨_, _, f1, .inr ⟨rfl, _, ⟨f2, f3⟩, (hIx _ _).putObj (s := ()) _ hi hle1 h6 rfl⟩⟩
    | exit id =>
      obtain ⟨hk5, hi⟩ := hp
      have h6 := abid _ _ rfl hle1 _ W3 hl3 hk5
      obtain ⟨f1, f2, f3⟩ := fin (some (.exit id)) W3 h6 (abid _ _ rfl hle _ W3 hk3 hk5)
      exact ⟨_, _, f1, .inr ⟨rfl, _, ⟨f2, f3⟩, (hIx _ _).putObj (s := ()) _ hi hle1 h6 rfl⟩⟩
    | goto t =>
      obtain ⟨hk5, hi⟩ := hp
      have h6 := abid _ _ rfl hle1 _ W3 hl3 hk5
      obtain ⟨f1, f2, f3⟩ := fin (some (.goto t)) W3 h6 (abid _ _ rfl hle _ W3 hk3 hk5)
      exact ⟨_, _, f1, .inr ⟨rfl, _, ⟨f2, f3⟩, (hIx _ _).putObj (s := ()) _ hi hle1 h6 rfl⟩⟩
    | panic ch => exact hp.elim
    | outgrown => exact hp.elim
end Go.Proofs.YtppapkpceejnkaaGreatDoor
namespace Go.Proofs.YtppapkpceejnkaaGreatDoor
open Go.RowKit

/-- What is yielded: a node, and what is behind it; an error. -/
inductive Yt where
  | nd (h : Hd) (v : Value) (k : Fo) (r : List UInt8)
  | er (e : Nat)
def encY : Yt → Array Value
  | .nd h v _ _ => #[.agg (h.cells v), .nilIface]
  | .er e => #[.agg (zH.cells (.slice none 0 0)), fltV (e : Int)]
def lastY (l0 : List UInt8) (xs : List Yt) : List UInt8 := match xs.getLast? with
  | some (.nd _ _ _ r) => r
  | _ => l0
def foY : List Yt → Fo
  | [] => .nil
  | .nd h _ k _ :: xs => .cons h k (foY xs)
  | .er _ :: xs => foY xs
def isN : Yt → Prop
  | .nd _ _ _ _ => True
  | .er _ => False
theorem fo_app_nil : ∀ (f : Fo), f.app .nil = f
  | .nil => rfl
  | .cons h k r => by
    show Fo.cons h k (r.app .nil) = _
    rw [fo_app_nil r]
theorem lastY_snoc (l0 : List UInt8) (xs : List Yt) (h : Hd) (v : Value) (k : Fo) (r : List UInt8) : lastY l0 (xs ++ [.nd h v k r]) = r := by simp [lastY]
theorem foY_len : ∀ (xs : List Yt), (foY xs).len ≤ xs.length
  | [] => Nat.le_refl _
  | .nd _ _ _ _ :: xs => Nat.succ_le_succ (foY_len xs)
  | .er _ :: xs => Nat.le_succ_of_le (foY_len xs)
theorem foY_snoc (h : Hd) (v : Value) (k : Fo) (r : List UInt8) : ∀ (xs : List Yt), foY (xs ++ [.nd h v k r]) = (foY xs).app (.cons h k .nil)
  | [] => rfl
  | .nd a b c d :: xs => by
    show Fo.cons a c (foY (xs ++ [.nd h v k r])) = Fo.cons a c ((foY xs).app (.cons h k .nil))
    rw [foY_snoc h v k r xs]
  | .er _ :: xs => foY_snoc h v k r xs
/-- What stays while a list is read: all blocks of cells but those of nodes, errors, builders, bytes, and the reader. -/
abbrev keepT (T : TypeId) : Prop := T ≠ 28 ∧ T ≠ 57 ∧ T ≠ 132 ∧ T ≠ 5
def Kc (b : Nat) (W W' : World) : Prop := W.heap.size ≤ W'.heap.size ∧ ∀ i cs T fr, W.heap[i]? = some (.cells cs T fr) → keepT T → i ≠ b → W'.heap[i]? = some (.cells cs T fr)
section
variable {A B C : World} {b : Nat}
theorem Kc.refl : Kc b A A := ⟨Nat.le_refl _, fun _ _ _ _ h _ _ => h⟩
theorem Kc.trans (h : Kc b A B) (k : Kc b B C) : Kc b A C := ⟨Nat.le_trans h.1 k.1, fun i cs T fr hi h1 h2 => k.2 i cs T fr (h.2 i cs T fr hi h1 h2) h1 h2⟩
theorem Kc.gr (h : A.grownBy B (some b)) : Kc b A B := ⟨h.size, fun i _ _ _ hi _ h2 => (h.block i (Array.getElem?_eq_some_iff.1 hi).1 (fun e => h2 (Option.some.inj e))).trans hi⟩
theorem Kc.below (h : Below A.heap.size A B) : Kc b A B := Kc.gr (gr_below h)
theorem Kc.bx {i : Nat} {cs : Array Value} {T : TypeId} (h : Kc b A B) (hx : Bx A i cs T) (hT : keepT T) (hi : i ≠ b) : Bx B i cs T := h.2 i cs T _ hx hT hi
end
/-- How far a list's reading goes on. -/
def GoL (c : Option Nat) (p o : Bool) (l : List UInt8) : Prop := c ≠ some 0 ∧ ¬ (c = none ∧ endsL l = true ∧ (p = false ∨ o = false))
theorem ls_err {g : Rg} (hg : Eats g) {c : Option Nat} {p o : Bool} {l : List UInt8} (h : GoL c p o l) {e : Nat} (he : g l = .error e) : lsL g c p o l = .error e := by
  rw [lsL_def hg, if_neg h.1, if_neg h.2, he]
theorem ls_ok {g : Rg} (hg : Eats g) {c : Option Nat} {p o : Bool} {l : List UInt8} (h : GoL c p o l) {x : Hd} {k : Fo} {r : List UInt8} (he : g l = .ok ((x, k), r)) (f : Fo) :
    addR f (lsL g c p o l) = addR (f.app (.cons x k .nil)) (lsL g (less c p o) p (!o) r) := by
  rw [lsL_def hg c p o l, if_neg h.1, if_neg h.2, he, addR_cons]
/-- What is left of a count. -/
def rem (c : Option Nat) (q : Nat) : Option Nat := c.map (· - q)
theorem rem_rem (c : Option Nat) (q : Nat) : (rem c q).map (· - 1) = rem c (q + 1) := by
  cases c with
  | none => rfl
  | some a => rfl
theorem step_r {g : Rg} (hg : Eats g) (p : Bool) (d q : Nat) (c : Option Nat) (r : List UInt8) (hd : d < (if p then 2 else 1)) :
    lsL g (less (rem c q) p (p && d == 1)) p (!(p && d == 1)) r = lsL g (if d + 1 = (if p then 2 else 1) then rem c (q + 1) else rem c q) p (p && (d + 1) == 1) r := by
  cases p with
  | false =>
    obtain rfl : d = 0 := by simp at hd; exact hd
    show lsL g (less (rem c q) false false) false true r = lsL g (rem c (q + 1)) false false r
    rw [less, if_pos (.inl rfl), rem_rem]
    exact ls_o hg _ _ _ _ _ (Nat.lt_succ_self _)
  | true =>
    have h2 : d = 0 ∨ d = 1 := by simp at hd; omega
    rcases h2 with rfl | rfl
    · show lsL g (less (rem c q) true false) true true r = lsL g (rem c q) true true r
      rw [less, if_neg (by simp)]
    · show lsL g (less (rem c q) true true) true false r = lsL g (rem c (q + 1)) true false r
      rw [less, if_pos (.inr rfl), rem_rem]
theorem step_g {p : Bool} {d q : Nat} {c : Option Nat} {l r : List UInt8} (h : GoL (rem c q) p (p && d == 1) l) (hd : d + 1 < (if p then 2 else 1)) : GoL (rem c q) p (p && (d + 1) == 1) r := by
  refine ⟨h.1, fun h2 => ?_⟩
  cases p with
  | false => simp at hd
  | true =>
    obtain rfl : d = 0 := by simp at hd; omega
    rcases h2.2.2 with h3 | h3
    · cases h3
    · cases h3
def fvV (it : Bool) (b c1 c2 : Nat) : Value := if it then .func (.func 36) #[.pointer (some ⟨b, 0, none⟩)] #[] else .func (.func 190) #[] #[.pointer (some ⟨c1, 0, none⟩), .pointer (some ⟨c2, 0, none⟩)]
def fvF (it : Bool) : Nat := if it then 36 else 190
def fvA (it : Bool) (b c1 c2 : Nat) : Array Value := if it then #[.pointer (some ⟨b, 0, none⟩)] else #[.pointer (some ⟨c1, 0, none⟩), .pointer (some ⟨c2, 0, none⟩)]
def rdN (p : Bool) : Nat := if p then 2 else 1
/-- The boxes of an iterator. -/
structure Th (W : World) (b hB rB oB S c1 c2 : Nat) (it p : Bool) (j k a : Int) : Prop where
  h : Bx W hB #[.int .i64 j, .int .i64 k, .int .u64 a] 119
  r : Bx W rB #[.pointer (some ⟨b, 0, none⟩)] 67
  o : Bx W oB #[.slice (some ⟨S, 0, none⟩) (rdN p) (rdN p)] 208
  s : Bx W S (Array.replicate (rdN p) (fvV it b c1 c2)) 69
  n : hB ≠ b ∧ rB ≠ b ∧ oB ≠ b ∧ S ≠ b
theorem Th.kept {W W' : World} {b hB rB oB S c1 c2 : Nat} {it p : Bool} {j k a : Int} (h : Th W b hB rB oB S c1 c2 it p j k a) (hk : Kc b W W') : Th W' b hB rB oB S c1 c2 it p j k a :=
  ⟨hk.bx h.h (by decide) h.n.1, hk.bx h.r (by decide) h.n.2.1, hk.bx h.o (by decide) h.n.2.2.1, hk.bx h.s (by decide) h.n.2.2.2, h.n⟩
/-- The reader's text is so long. -/
def lenAt (b : Nat) (W : World) : Nat := match W.cell? ⟨b, 0, none⟩ with
  | some (.string s) => s.size
  | _ => 0
theorem lenAt_rd {w0 W : World} {b wn : Nat} {l : List UInt8} (h : Rd w0 b l wn W) : lenAt b W = l.length := by
  rw [lenAt, h.c0]
  exact size_l l
section
variable (w0 : World) (b wn : Nat) (l0 : List UInt8) (W0 : World) (J : List Yt → World → Prop) (JX : Nat → Code → World → Prop) (R : Res Fo) (g : Rg)
def IY (xs : List Yt) (W : World) : Prop := J xs W ∧ Rd w0 b (lastY l0 xs) wn W ∧ Kc b W0 W ∧ (∀ x ∈ xs, isN x) ∧ xs.length + (lastY l0 xs).length ≤ l0.length
def YY (xs : List Yt) (x : Yt) (W : World) : Prop := ∃ Wp, IY w0 b wn l0 W0 J xs Wp ∧ Wp.grownBy W (some b) ∧ match x with
  | .nd h v k r => Rd w0 b r wn W ∧ Kd (fun B => Wp.heap.size ≤ B) W v k ∧ h.u < 18446744073709551616 ∧ r.length < (lastY l0 xs).length ∧ g (lastY l0 xs) = .ok ((h, k), r)
  | .er _ => ∃ r, Rd w0 b r wn W
def IX (x : Yt) (c : Code) (W : World) : Prop := match x with
  | .nd _ _ _ _ => False
  | .er e => JX e c W
def DoneY (W : World) : Prop := ∃ xs Wp r, IY w0 b wn l0 W0 J xs Wp ∧ Wp.grownBy W (some b) ∧ Rd w0 b r wn W ∧ R = .ok (foY xs, r)
def LeftY (c : Code) (W : World) : Prop := ∃ e, R = .error e ∧ JX e c W
/-- Where the iterator stands. -/
def StY (B : World → Prop) (xs : List Yt) (V : World) : Prop := ∃ Vp, IY w0 b wn l0 W0 J xs Vp ∧ Vp.grownBy V (some b) ∧ Rd w0 b (lastY l0 xs) wn V ∧ B V
end
set_option maxRecDepth 100000 in
theorem through_c_calls (A : Option Addr) (b m c : Nat) (j k a : Int) (w : World) : Calls Tryz.prog 145 #[.pointer (some ⟨b, 0, none⟩), hdV j k a, .slice A m c] w fun o w' => o = .returned (.func (.func 188) #[] #[.pointer (some ⟨w.heap.size + 1, 0, none⟩), .pointer (some ⟨w.heap.size, 0, none⟩), .pointer (some ⟨w.heap.size + 2, 0, none⟩)]) ∧
    w' = ((w.alloc (.cells #[.pointer (some ⟨b, 0, none⟩)] 67)).alloc (.cells #[.int .i64 j, .int .i64 k, .int .u64 a] 119)).alloc (.cells #[.slice A m c] 208) := by
  go_enter Tryz.func145, Tryz.ntmps145
  go_wp2
  go_ret
  exact ⟨rfl, rfl⟩
end Go.Proofs.YtppapkpceejnkaaGreatDoor
