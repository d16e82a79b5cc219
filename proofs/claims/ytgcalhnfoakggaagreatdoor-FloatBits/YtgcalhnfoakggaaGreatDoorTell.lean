/- The walk of tell. -/
import Derived.Test.YtgcalhnfoakggaaGreatDoorMn1
import Derived.Test.YtgcalhnfoakggaaGreatDoorFmt
namespace Go.Proofs.YtgcalhnfoakggaaGreatDoor
open Go.RowKit Go.Shelf
open Go.Lib (decDigits nDigits repeatL)

attribute [local go_sem] Oper.semAt_some

/-- What is told of a number: its digits, or that they are too many. -/
def outS (n : Nat) : List UInt8 := if n < lim then decDigits n else []
def outE (n : Nat) : Nat := if n < lim then 0 else 11
def TellPost (n : Nat) (w : World) (e : Ending) (w' : World) : Prop := e = .returned (.tuple #[.string ⟨(outS n).toArray⟩, .int .i64 (outE n : Nat)]) ∧ Below w.heap.size w w'

theorem grown_of_below {A B : World} (h : Below A.heap.size A B) : A.grownBy B none := ⟨h.os, h.tape, h.output, h.size, fun k hk _ => h.block k hk⟩

theorem bld_kept {W W' : World} {row : Option Nat} {B b : Nat} {bs : List Value} (h : Lib.IsBuilderF 121 5 B b bs W) (hg : W.grownBy W' row) (hr : ∀ r, row = some r → ∃ o : Obj, W.heap[r]? = some o ∧ o.isCells = false) : Lib.IsBuilderF 121 5 B b bs W' := by
  have key : ∀ p, Lib.BuilderAtF 121 5 B b p bs W → Lib.BuilderAtF 121 5 B b p bs W' := by
    rintro p ⟨hB, v, hb, hown, hne⟩
    refine ⟨hB, v, (hg.block b (Array.getElem?_eq_some_iff.1 hb).1 (fun e => ?_)).trans hb, hown.kept hg ?_, hne⟩
    · obtain ⟨o, ho, hc⟩ := hr b e.symm
      rw [hb] at ho; cases ho; cases hc
    · rcases hown.2 with ⟨rfl, _⟩ | ⟨g, cap, cur, fz, rfl, _, hh, _⟩
      · exact .inl rfl
      · right
        intro e
        obtain ⟨o, ho, hc⟩ := hr g e.symm
        rw [hh] at ho; cases ho; cases hc
  exact h.elim (fun x => .inl (key _ x)) (fun x => .inr (key _ x))
theorem bld_below {W W' : World} {B b : Nat} {bs : List Value} (h : Lib.IsBuilderF 121 5 B b bs W) (hb : Below W.heap.size W W') : Lib.IsBuilderF 121 5 B b bs W' := bld_kept h (grown_of_below hb) (fun r e => by cases e)

theorem bld_own {β : Type} (B b : Nat) (f : β → List Value) : Own (fun s W => Lib.IsBuilderF 121 5 B b (f s) W) := fun _ _ _ _ hs hg hr => bld_kept hs hg hr

theorem outS_lt {n : Nat} (h : nDigits n ≤ 400) : outS n = decDigits n := by rw [outS, if_pos ((lim_iff n).1 h)]
theorem outE_lt {n : Nat} (h : nDigits n ≤ 400) : outE n = 0 := by rw [outE, if_pos ((lim_iff n).1 h)]
theorem outS_ge {n : Nat} (h : ¬ nDigits n ≤ 400) : outS n = [] := by rw [outS, if_neg (fun h' => h ((lim_iff n).2 h'))]
theorem outE_ge {n : Nat} (h : ¬ nDigits n ≤ 400) : outE n = 11 := by rw [outE, if_neg (fun h' => h ((lim_iff n).2 h'))]

theorem lim_le (b m : Nat) (hb : b = 10 ^ 9) (hm : 45 ≤ m) : lim ≤ b ^ m := by
  have h : ∀ k, k ≤ 9 * m → 10 ^ k ≤ b ^ m := fun k hk => by
    subst hb
    rw [← Nat.pow_mul]
    exact Nat.pow_le_pow_right (by omega) hk
  unfold lim
  exact h 400 (by omega)

theorem long_digits {L : List Nat} (nm : Nm L) (h : 45 < L.length) : ¬ nDigits (val L) ≤ 400 := by
  intro h1
  have h2 := (lim_iff _).1 h1
  have h3 := val_ge nm (by intro e; subst e; simp at h)
  have h4 := lim_le 1000000000 (L.length - 1) (by decide) (by omega)
  exact absurd (Nat.lt_of_lt_of_le h2 (Nat.le_trans h4 h3)) (Nat.lt_irrefl _)

set_option maxHeartbeats 400000 in
theorem tell_zero (a : Option Addr) (cap : Nat) (w : World) : Calls Tryz.prog 65 #[.slice a 0 cap] w (TellPost 0 w) := by
  go_enter Tryz.func65, Tryz.ntmps65
  go_wp2
  go_ret2
  exact ⟨by rw [outS_lt (by rw [Lib.nDigits_small (by omega)]; omega), outE_lt (by rw [Lib.nDigits_small (by omega)]; omega), Lib.decDigits_one (by omega)]; rfl, Below.refl _ _⟩

set_option maxHeartbeats 400000 in
theorem tell_long (L : List Nat) (nm : Nm L) (h : 45 < L.length) (hl : L.length ≤ 1000) (a : Option Addr) (cap : Nat) (w : World) : Calls Tryz.prog 65 #[.slice a L.length cap] w (TellPost (val L) w) := by
  have HE := Lib.hid (outE_ge (long_digits nm h))
  have HS := Lib.hid (outS_ge (long_digits nm h))
  have h0 : ((L.length : Int) == 0) = false := beq_eq_false_iff_ne.2 (by omega)
  clear nm
  go_enter Tryz.func65, Tryz.ntmps65
  go_wp2
  go_ret2
  exact ⟨by rw [HE.out, HS.out]; rfl, Below.refl _ _⟩

theorem write_calls (B b : Nat) (t : List UInt8) (s : List UInt8) (w : World) (h : Lib.IsBuilderF 121 5 B b (Lib.byteCells t) w) (hlen : t.length + s.length ≤ 10000) (hBw : B ≤ w.heap.size) :
    Calls Tryz.prog 83 #[.pointer (some ⟨b, 0, none⟩), .string ⟨s.toArray⟩] w fun e w' => e = .returned (.tuple #[.int .i64 (s.length : Int), .nilIface]) ∧ Lib.IsBuilderF 121 5 B b (Lib.byteCells (t ++ s)) w' ∧ Below B w w' ∧ Lib.OthersKept 5 (some b) w w' := by
  refine (Any.Builder_WriteString_k (ρ := Tryz.lays105_ren) { Tryz.lays105 with } Tryz.Builder_Extra_105 B b (Lib.byteCells t) ⟨s.toArray⟩ w h (by rw [Lib.byteCells_length]; show _ + s.length ≤ _; omega) hBw).mono ?_
  rintro e w' ⟨rfl, h1, h2, h3⟩
  refine ⟨rfl, .inr ?_, h2, h3⟩
  rw [Lib.byteCells_append]
  exact h1

theorem rep_calls (n : Int) (c : Nat) (w : World) (hn : n = (c : Int)) (hc : c ≤ 9) : Calls Tryz.prog 84 #[.string ⟨#[48]⟩, .int .i64 n] w fun e w' => e = .returned (.string ⟨(repeatL [48] c).toArray⟩) ∧ Below w.heap.size w w' := by
  subst hn
  exact Tryz.strings_Repeat ⟨#[48]⟩ c w (by omega) (by show 1 * c ≤ _; omega)

theorem kpt_below {S : Nat → Prop} {W W' : World} (h : Below W.heap.size W W') (hS : ∀ k, S k → k < W.heap.size) : Kpt S W W' := ⟨h.size, fun k hk => h.block k (hS k hk)⟩

theorem keeps_others {W W' : World} {b B : Nat} (h : Lib.OthersKept 5 (some b) W W') (hs : W.heap.size ≤ W'.heap.size) (hb : b < B) : KeepsFrom B W W' :=
  ⟨hs, fun k o hk ho hc => h k o ho (fun e => by cases e; omega) (fun c fz e => by subst e; cases hc)⟩
theorem keeps_below {W W' : World} (B : Nat) (h : Below W.heap.size W W') : KeepsFrom B W W' :=
  ⟨h.size, fun k _ _ ho _ => (h.block k (Array.getElem?_eq_some_iff.1 ho).1).trans ho⟩
theorem boxed_others {W W' : World} {b B : Nat} {t : TypeId} {v : Value} (h : Lib.OthersKept 5 (some b) W W') (hB : Boxed W B t v) (hne : B ≠ b) (ht : t ≠ 5) : Boxed W' B t v :=
  h B _ hB (fun e => hne (by cases e; rfl)) (fun c fz e => ht (by cases e; rfl))
theorem boxed_below {W W' : World} {B : Nat} {t : TypeId} {v : Value} (h : Below W.heap.size W W') (hB : Boxed W B t v) : Boxed W' B t v := (h.block B hB.lt).trans hB

set_option maxRecDepth 100000 in
set_option maxHeartbeats 2000000 in
theorem tell_main (L : List Nat) (v : Value) (a : Option Addr) (cap : Nat) (ev : v = .slice a L.length cap) (w : World) (h1 : 1 ≤ L.length) (h45 : L.length ≤ 45) (hx : Lm w v L) (bd : Bd L) (nm : Nm L) (htab : Tab w) :
    Calls Tryz.prog 65 #[v] w (TellPost (val L) w) := by
  subst ev
  have h0 : ((L.length : Int) == 0) = false := beq_eq_false_iff_ne.2 (by omega)
  have hd0 : decide (45 < (L.length : Int)) = false := by simp; omega
  refine (callsIn_wide (n := 5)).1 ?_
  refine callsIn_of_wp_marks Tryz.func65 rfl trivial ?_ rfl
  simp only [Tryz.ntmps65, List.size_toArray, List.length_cons, List.length_nil, Nat.reduceAdd, Nat.reduceSub, Array.replicate_succ, Array.replicate_zero, List.push_toArray, List.append_toArray, List.nil_append, List.cons_append]
  have HX := Lib.hid hx
  have HBd := Lib.hid bd
  have HNm := Lib.hid nm
  have HT := Lib.hid htab
  clear hx bd nm htab
  gi_wp2_with (refine ⟨trivial, ?_⟩; gi_at_call 82; refine (back_in _ _ _ _ _ _ rfl).mono ?_; rintro e w' ⟨rfl, rfl⟩)
  obtain ⟨W0, hW0⟩ : ∃ W0, W0 = ((w.alloc (.cells #[.int .i64 ((L.length : Int) - 1)] 3)).alloc (.cells #[.pointer none, .slice none 0 0] 121)).alloc (.cells #[.slice a L.length cap] 96) := ⟨_, rfl⟩
  have bT : Boxed W0 w.heap.size 3 (.int .i64 ((L.length : Int) - 1)) := by rw [hW0]; exact ((Boxed.new w 3 _).alloc _).alloc _
  have bX : Boxed W0 (w.heap.size + 1 + 1) 96 (.slice a L.length cap) := by
    rw [hW0]
    have := Boxed.new ((w.alloc (.cells #[.int .i64 ((L.length : Int) - 1)] 3)).alloc (.cells #[.pointer none, .slice none 0 0] 121)) 96 (.slice a L.length cap)
    rw [World.size_alloc, World.size_alloc] at this
    exact this
  have hBd : Lib.IsBuilderF 121 5 (w.heap.size + 1) (w.heap.size + 1) (Lib.byteCells []) W0 := by
    refine .inl ⟨Nat.le_refl _, .slice none 0 0, ?_, World.ownsRowF_nil _ _ _ _, by simp [Value.ownBlock]⟩
    rw [hW0]
    have h := World.alloc_heap_new (w.alloc (.cells #[.int .i64 ((L.length : Int) - 1)] 3)) (.cells #[.pointer none, .slice none 0 0] 121)
    rw [World.size_alloc] at h
    exact (Below.heap_alloc _ _ _ (by simp)).trans h
  have hB0 : Below w.heap.size w W0 := by rw [hW0]; exact (((Below.refl _ w).alloc (Nat.le_refl _) _).alloc (by simp) _).alloc (by simp; omega) _
  have hs0 : W0.heap.size = w.heap.size + 3 := by rw [hW0]; simp
  rw [← hW0]
  have HS0 := Lib.hid hs0
  clear hW0 hs0
  refine wpIn_rangeFunc_ownG rfl (by omega) (gf := 96) (lb := #[.pointer (some ⟨w.heap.size + 1 + 1, 0, none⟩)]) rfl trivial (enters_of Tryz.func96 (by kernel_rfl) rfl)
    (back_stops (5 - 1) (by omega) (w.heap.size + 1 + 1) (fun k => k < w.heap.size ∨ k = w.heap.size + 1 + 1) (.slice a L.length cap) L (by omega) _ (by rw [HS0.out]; omega) (.inr rfl) bX.cell (HX.out.below hB0)
      (fun b' off len cap e => by
        rcases HX.out with ⟨e2, _⟩ | ⟨b2, off2, cap2, e2, _, h2, _⟩
        · rw [e] at e2; cases e2
        · rw [e] at e2; cases e2; exact .inl h2)) Kpt.trans (Kpt.book (by rintro k (h | h) <;> rw [HS0.out] <;> omega)) (Below.refl _ _) (fun _ => rfl)
    (fun pre W => ((Boxed W w.heap.size 3 (.int .i64 ((L.length : Int) - 1)) ∧ Boxed W (w.heap.size + 1 + 1) 96 (.slice a L.length cap)) ∧ (Lib.IsBuilderF 121 5 (w.heap.size + 1) (w.heap.size + 1) (Lib.byteCells (txt (L.length - 1) (pre.map (·.1)))) W ∧ (txt (L.length - 1) (pre.map (·.1))).length ≤ 9 * pre.length)) ∧ Below w.heap.size w W)
    (fun _ _ _ => False)
    (OwnFrom.and (OwnFrom.and (OwnFrom.and (Own.from (boxed_own _ _ _) _) (Own.from (boxed_own _ _ _) _)) (OwnFrom.and (Own.from (bld_own _ _ _) _) (ownFrom_pure _ _))) (ownFrom_below (Nat.le_refl _) (by rw [HS0.out]; omega)))
    (fun _ _ _ _ _ hs _ _ => hs)
    ⟨⟨⟨bT, bX⟩, ⟨hBd, by simp [txt]⟩⟩, hB0⟩
    (fun x => { tmps := #[.slice a L.length cap, undef, .string ⟨#[]⟩, .int .i64 0, .pointer (some ⟨w.heap.size, 0, none⟩), .pointer (some ⟨w.heap.size + 1, 0, none⟩), .int .i64 (x.1.1 : Int), .int .u32 (x.1.2 : Int), undef, .slice a L.length cap, .int .i64 (L.length : Int), .bool false, .slice a L.length cap, .int .i64 (L.length : Int), .bool false, .slice a L.length cap, .int .i64 (L.length : Int), .int .i64 ((L.length : Int) - 1), .slice a L.length cap, .func (.func 96) #[] #[.pointer (some ⟨w.heap.size + 1 + 1, 0, none⟩)], .int .i64 (x.1.1 : Int), .int .u32 (x.1.2 : Int), undef, undef, undef, undef, undef, undef, undef, undef, undef, undef, undef, undef, undef, undef, undef, undef], defers := [] }) ?assign ?body ?done ?stop
  case assign =>
    intro l x W K hK
    gi_wp2
    exact hK
  case body =>
    rintro l pre x W ⟨⟨⟨hT, hX⟩, ⟨hb, hlen⟩⟩, hB⟩ hpl
    have hi := x.2.1
    have hx2 : x.1.2 < 1000000000 := by rw [x.2.2]; exact HBd.out _
    have HTW := Lib.hid (HT.out.below hB)
    have hcT := hT.cell
    have HB := Lib.hid hb
    clear hb
    have hnd : (decDigits x.1.2).length ≤ 9 := by rw [Lib.decDigits_length]; exact nDigits_le (by omega) hx2
    have ht9 : (txt1 (L.length - 1) x.1).length ≤ 9 := txt1_le hx2
    have HTx : Hid (txt (L.length - 1) ((pre ++ [x]).map (·.1)) = txt (L.length - 1) (pre.map (·.1)) ++ txt1 (L.length - 1) x.1) := by rw [List.map_append]; exact txt_snoc _ _ _
    by_cases hi2 : x.1.1 < L.length - 1
    · have hlt : (x.1.1 : Int) < (L.length : Int) - 1 := by omega
      have HT1 : Hid (txt1 (L.length - 1) x.1 = repeatL [48] (9 - (decDigits x.1.2).length) ++ decDigits x.1.2) := by rw [txt1, if_pos hi2]; rfl
      gi_wp2_with (first
        | (refine ⟨trivial, ?_⟩; gi_at_call 68; refine (CallsIn.inRound l (callsIn_wide.2 (formatUint_calls x.1.2 (by omega) W HTW.out))).mono ?_; rintro e W1 ⟨rfl, hb1⟩; have hT1 := boxed_below hb1 hT; have hX1 := boxed_below hb1 hX; have hcT1 := hT1.cell; clear hcT))
      refine ⟨trivial, ?_⟩
      refine (CallsIn.inRound l (callsIn_wide.2 (rep_calls _ (9 - (decDigits x.1.2).length) W1 (by omega) (by omega)))).mono ?_
      rintro e W2 ⟨rfl, hb2⟩
      have hb12 : Below W.heap.size W W2 := hb1.trans (hb2.mono hb1.size)
      have HB2 := Lib.hid (bld_below HB.out hb12)
      have hT2 := boxed_below hb12 hT
      have hX2 := boxed_below hb12 hX
      have hs2 := hX2.lt
      clear hcT1
      gi_wp2_with (fail)
      refine ⟨trivial, ?_⟩
      refine (CallsIn.inRound l (callsIn_wide.2 (write_calls (w.heap.size + 1) (w.heap.size + 1) _ _ W2 HB2.out (by rw [Lib.repeatL_length]; simp; omega) (by omega)))).mono ?_
      rintro e W3 ⟨rfl, hB3, hb3, ho3⟩
      have HB3 := Lib.hid hB3
      have hT3 := boxed_others ho3 hT2 (by omega) (by decide)
      have hX3 := boxed_others ho3 hX2 (by omega) (by decide)
      have hs3 := hX3.lt
      clear hB3
      gi_wp2_with (fail)
      refine ⟨trivial, ?_⟩
      refine (CallsIn.inRound l (callsIn_wide.2 (write_calls (w.heap.size + 1) (w.heap.size + 1) _ _ W3 HB3.out (by rw [List.length_append, Lib.repeatL_length]; simp; omega) (by omega)))).mono ?_
      rintro e W4 ⟨rfl, hB4, hb4, ho4⟩
      have HB4 := Lib.hid hB4
      have hT4 := boxed_others ho4 hT3 (by omega) (by decide)
      have hX4 := boxed_others ho4 hX3 (by omega) (by decide)
      clear hB4
      gi_wp2
      have hbW : Below w.heap.size W W4 := (hb12.mono hB.size).trans ((hb3.mono (by omega)).trans (hb4.mono (by omega)))
      refine ⟨(keeps_below _ hb12).trans ((keeps_others ho3 hb3.size (by rw [HS0.out]; omega)).trans (keeps_others ho4 hb4.size (by rw [HS0.out]; omega))), ⟨hbW.size, ?_⟩, ⟨⟨hT4, hX4⟩, ⟨?_, ?_⟩⟩, hB.trans hbW⟩
      · rintro k (h | rfl)
        · exact hbW.block k h
        · exact hX4.trans hX.symm
      · rw [HTx.out, HT1.out, ← List.append_assoc]; exact HB4.out
      · rw [HTx.out]; simp; omega
    · have hlt : ¬ (x.1.1 : Int) < (L.length : Int) - 1 := by omega
      have HT1 : Hid (txt1 (L.length - 1) x.1 = decDigits x.1.2) := by rw [txt1, if_neg hi2]; rfl
      gi_wp2_with (first
        | (refine ⟨trivial, ?_⟩; gi_at_call 68; refine (CallsIn.inRound l (callsIn_wide.2 (formatUint_calls x.1.2 (by omega) W HTW.out))).mono ?_; rintro e W1 ⟨rfl, hb1⟩; have hT1 := boxed_below hb1 hT; have hX1 := boxed_below hb1 hX; have hcT1 := hT1.cell; clear hcT))
      have HB2 := Lib.hid (bld_below HB.out hb1)
      have hs2 := hX1.lt
      clear hcT1
      refine ⟨trivial, ?_⟩
      refine (CallsIn.inRound l (callsIn_wide.2 (write_calls (w.heap.size + 1) (w.heap.size + 1) _ _ W1 HB2.out (by omega) (by omega)))).mono ?_
      rintro e W4 ⟨rfl, hB4, hb4, ho4⟩
      have HB4 := Lib.hid hB4
      have hT4 := boxed_others ho4 hT1 (by omega) (by decide)
      have hX4 := boxed_others ho4 hX1 (by omega) (by decide)
      clear hB4
      gi_wp2
      have hbW : Below w.heap.size W W4 := (hb1.mono hB.size).trans (hb4.mono (by omega))
      refine ⟨(keeps_below _ hb1).trans (keeps_others ho4 hb4.size (by rw [HS0.out]; omega)), ⟨hbW.size, ?_⟩, ⟨⟨hT4, hX4⟩, ⟨?_, ?_⟩⟩, hB.trans hbW⟩
      · rintro k (h | rfl)
        · exact hbW.block k h
        · exact hX4.trans hX.symm
      · rw [HTx.out, HT1.out]; exact HB4.out
      · rw [HTx.out]; simp; omega
  case done =>
    rintro D ys W hD hys ⟨⟨⟨hT, hX⟩, ⟨hb, hlen⟩⟩, hB⟩ hK
    rw [hys, txt_back HBd.out HNm.out h1 (Nat.le_refl _), hv_all] at hb
    have HB := Lib.hid hb
    have hs := hX.lt
    have HLn : Hid ((Lib.byteCells (decDigits (val L))).length = nDigits (val L)) := by rw [Lib.byteCells_length, Lib.decDigits_length]; rfl
    clear hb hys hlen
    gi_wp2_with (fail)
    refine ⟨trivial, ?_⟩
    refine (callsIn_wide.2 (Any.Builder_Len_f (ρ := Tryz.lays105_ren) { Tryz.lays105 with } (w.heap.size + 1) (w.heap.size + 1) _ W HB.out)).mono ?_
    rintro e W1 ⟨rfl, rfl⟩
    rw [HLn.out]
    by_cases hn : nDigits (val L) ≤ 400
    · have hn1 : decide ((400 : Int) < (nDigits (val L) : Int)) = false := by simp; omega
      have HS := Lib.hid (outS_lt hn)
      have HE := Lib.hid (outE_lt hn)
      gi_wp2_with (fail)
      refine ⟨trivial, ?_⟩
      refine (callsIn_wide.2 (Any.Builder_String_any_k (ρ := Tryz.lays105_ren) { Tryz.lays105 with } Tryz.Builder_Extra_105 (w.heap.size + 1) (w.heap.size + 1) _ _ HB.out (by omega))).mono ?_
      rintro e W2 ⟨rfl, _, hb2, ho2⟩
      gi_wp2
      have hK2 : W2.heap[D]? = some (.deferred (some [])) := ho2 D _ hK (fun e => by cases e; rw [HS0.out] at hD; omega) (fun c fz e => by cases e)
      refine ⟨by simp, .inl ⟨_, _, rfl, run_takeDeferred hK2, ?_⟩⟩
      exact ⟨_, results_tmp2 rfl _ _ _, by rw [HS.out, HE.out]; rfl, (hB.trans (hb2.mono (by omega))).trans (belowK_b (w := w) (Nat.le_refl _) _ D _ _ (by rw [HS0.out] at hD; omega) hK2 rfl rfl)⟩
    · have hn1 : decide ((400 : Int) < (nDigits (val L) : Int)) = true := by simp; omega
      have HS := Lib.hid (outS_ge hn)
      have HE := Lib.hid (outE_ge hn)
      gi_wp2
      refine ⟨by simp, .inl ⟨_, _, rfl, run_takeDeferred hK, ?_⟩⟩
      exact ⟨_, results_tmp2 rfl _ _ _, by rw [HS.out, HE.out]; rfl, hB.trans (belowK_b (w := w) (Nat.le_refl _) _ D _ _ (by rw [HS0.out] at hD; omega) hK rfl rfl)⟩
  case stop =>
    rintro D c pre W _ _ h _
    exact h.elim

theorem tell_calls (L : List Nat) (v : Value) (w : World) (hl : L.length ≤ 1000) (hx : Lm w v L) (bd : Bd L) (nm : Nm L) (htab : Tab w) : Calls Tryz.prog 65 #[v] w (TellPost (val L) w) := by
  obtain ⟨a, cap, ev⟩ := hx.shape
  by_cases h0 : L = []
  · subst h0 ev
    exact tell_zero a cap w
  · have h1 : 1 ≤ L.length := List.length_pos_iff.2 h0
    by_cases h45 : 45 < L.length
    · subst ev
      exact tell_long L nm h45 hl a cap w
    · exact tell_main L v a cap ev w h1 (by omega) hx bd nm htab
end Go.Proofs.YtgcalhnfoakggaaGreatDoor
