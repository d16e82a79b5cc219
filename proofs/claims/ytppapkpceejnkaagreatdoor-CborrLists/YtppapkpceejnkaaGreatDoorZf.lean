/- The walk of sub. The walk of add. The walk of strconv.FormatUint to the base 10. The walk of tell. The walks of Compare, Add and Sub. -/
import Derived.Test.YtppapkpceejnkaaGreatDoorMd
import Derived.Deep.QuietTactic
import Derived.BigQuiet
import Derived.Test.YtppapkpceejnkaaGreatDoorMe
import Derived.Test.YtppapkpceejnkaaGreatDoorSh
import Derived.Lib.Walk
import Derived.Lib.ItoaMem
import Derived.WalkKit
import Derived.WalkSpells
import Derived.WalkLawsBesides
import Derived.BigCall
import Derived.BigGuard
import Derived.StillTailTactics
import Derived.Deep.RegionWith
namespace Go.Proofs.YtppapkpceejnkaaGreatDoor
open Go.RowKit

/-- A call hands back the limbs of the number n. -/
def RetV (n len : Nat) (w : World) (e : Ending) (w' : World) : Prop := ∃ R v, e = .returned v ∧ Lm w' v R ∧ Bd R ∧ Nm R ∧ val R = n ∧ R.length ≤ len ∧ Below w.heap.size w w'

/-- The difference, k limbs of it. -/
structure SubR (X Y S : List Nat) (k c : Nat) : Prop where
  len : S.length = X.length
  le : k ≤ X.length
  rest : ∀ j, k ≤ j → lat S j = lat X j
  bd : Bd S
  c1 : c ≤ 1
  eq : vt (lat X) k + c * 1000000000 ^ k = vt (lat S) k + vt (lat Y) k

theorem vt_set {S : List Nat} {k v : Nat} : vt (lat (S.set k v)) k = vt (lat S) k := vt_congr fun j hj => lat_set_other (by omega)
theorem bd_set {S : List Nat} (h : Bd S) {k v : Nat} (hv : v < 1000000000) : Bd (S.set k v) := by
  intro j
  by_cases e : k = j
  · subst e
    by_cases hk : k < S.length
    · rw [lat_set_same hk]; exact hv
    · rw [lat_ge (by simp; omega)]; omega
  · rw [lat_set_other e]; exact h j

theorem SubR.step {X Y S : List Nat} {k c v c' : Nat} (h : SubR X Y S k c) (hk : k < X.length) (hc' : c' ≤ 1) (hv : v < 1000000000) (e : lat X k + c' * 1000000000 = v + lat Y k + c) : SubR X Y (S.set k v) (k + 1) c' := by
  refine ⟨by rw [List.length_set]; exact h.len, hk, fun j hj => by rw [lat_set_other (by omega)]; exact h.rest j (by omega), bd_set h.bd hv, hc', ?_⟩
  rw [vt, vt, vt, vt_set, lat_set_same (by rw [h.len]; exact hk)]
  have h1 := h.eq
  have h2 : (lat X k + c' * 1000000000) * 1000000000 ^ k = (v + lat Y k + c) * 1000000000 ^ k := by rw [e]
  simp only [Nat.add_mul, Nat.mul_assoc] at h2
  rw [Nat.pow_succ, Nat.mul_comm (1000000000 ^ k) 1000000000]
  omega

theorem SubR.fin {X Y S : List Nat} {c : Nat} (h : SubR X Y S X.length c) (bX : Bd X) (nY : Nm Y) (hle : val Y ≤ val X) : val S = val X - val Y := by
  have hYl : Y.length ≤ X.length := by
    by_cases e : Y = []
    · subst e; simp
    · have h1 := val_ge nY e
      have h2 := val_lt bX
      have h3 : 1000000000 ^ (Y.length - 1) < 1000000000 ^ X.length := by omega
      have := (Nat.pow_lt_pow_iff_right (by omega : 1 < 1000000000)).1 h3
      omega
  have h1 := h.eq
  rw [val_eq hYl, show vt (lat S) X.length = val S from by rw [val, h.len], show vt (lat X) X.length = val X from rfl] at h1
  have h2 := val_lt h.bd
  rw [h.len] at h2
  have := h.c1
  rcases Nat.le_one_iff_eq_zero_or_eq_one.1 h.c1 with e | e <;> subst e <;> omega

theorem sub_fin {X Y S : List Nat} {c : Nat} {w w1 w2 : World} {e : Ending} (h : SubR X Y S X.length c) (bX : Bd X) (nY : Nm Y) (hle : val Y ≤ val X) (hb : Below w.heap.size w w1) (hr : RetLm (trimL S) w1 e w2) :
    RetV (val X - val Y) X.length w e w2 := by
  obtain ⟨v, rfl, hl, hb2⟩ := hr
  exact ⟨_, v, rfl, hl, bd_trim h.bd, nm_trim _, by rw [val_trim, h.fin bX nY hle], by have := length_trim S; have := h.len; omega, hb.trans (hb2.mono hb.size)⟩

end Go.Proofs.YtppapkpceejnkaaGreatDoor
namespace Go.Proofs.YtppapkpceejnkaaGreatDoor
open Go.RowKit

/-- The sum, k limbs of it, in a row of n. -/
structure AddR (n : Nat) (X Y S : List Nat) (k c : Nat) : Prop where
  len : S.length = n
  le : k ≤ n
  rest : ∀ j, k ≤ j → lat S j = lat X j
  bd : Bd S
  c1 : c ≤ 1
  eq : vt (lat S) k + c * 1000000000 ^ k = vt (lat X) k + vt (lat Y) k

theorem AddR.step {n : Nat} {X Y S : List Nat} {k c v c' : Nat} (h : AddR n X Y S k c) (hk : k < n) (hc' : c' ≤ 1) (hv : v < 1000000000) (e : v + c' * 1000000000 = lat X k + lat Y k + c) : AddR n X Y (S.set k v) (k + 1) c' := by
  refine ⟨by rw [List.length_set]; exact h.len, hk, fun j hj => by rw [lat_set_other (by omega)]; exact h.rest j (by omega), bd_set h.bd hv, hc', ?_⟩
  rw [vt, vt, vt, vt_set, lat_set_same (by rw [h.len]; exact hk)]
  have h1 := h.eq
  have h2 : (v + c' * 1000000000) * 1000000000 ^ k = (lat X k + lat Y k + c) * 1000000000 ^ k := by rw [e]
  simp only [Nat.add_mul, Nat.mul_assoc] at h2
  rw [Nat.pow_succ, Nat.mul_comm (1000000000 ^ k) 1000000000]
  omega

theorem AddR.fin {n : Nat} {X Y S : List Nat} {c : Nat} (h : AddR n X Y S n c) (hX : X.length < n) (hY : Y.length < n) (bX : Bd X) (bY : Bd Y) : val S = val X + val Y := by
  have h1 := h.eq
  rw [val_eq (L := X) (by omega), val_eq (L := Y) (by omega), show vt (lat S) n = val S from by rw [val, h.len]] at h1
  have h2 := val_lt bX
  have h3 := val_lt bY
  have h4 : 1000000000 ^ X.length ≤ 1000000000 ^ (n - 1) := Nat.pow_le_pow_right (by omega) (by omega)
  have h5 : 1000000000 ^ Y.length ≤ 1000000000 ^ (n - 1) := Nat.pow_le_pow_right (by omega) (by omega)
  have h6 : 1000000000 ^ n = 1000000000 * 1000000000 ^ (n - 1) := by rw [show n = n - 1 + 1 from by omega, Nat.pow_succ, Nat.mul_comm, show n - 1 + 1 - 1 = n - 1 from by omega]
  rcases Nat.le_one_iff_eq_zero_or_eq_one.1 h.c1 with e | e <;> subst e <;> omega

theorem add_fin {n : Nat} {X Y S : List Nat} {c : Nat} {w w1 w2 : World} {e : Ending} (h : AddR n X Y S n c) (hX : X.length < n) (hY : Y.length < n) (bX : Bd X) (bY : Bd Y) (hb : Below w.heap.size w w1) (hr : RetLm (trimL S) w1 e w2) :
    RetV (val X + val Y) n w e w2 := by
  obtain ⟨v, rfl, hl, hb2⟩ := hr
  exact ⟨_, v, rfl, hl, bd_trim h.bd, nm_trim _, by rw [val_trim, h.fin hX hY bX bY], by have := length_trim S; have := h.len; omega, hb.trans (hb2.mono hb.size)⟩

theorem lat_app_rep (X : List Nat) (m j : Nat) : lat (X ++ List.replicate m 0) j = lat X j := by
  simp only [lat]
  by_cases h : j < X.length
  · rw [List.getElem?_append_left h]
  · rw [List.getElem?_append_right (by omega), List.getElem?_eq_none (l := X) (by omega)]
    by_cases h2 : j - X.length < m
    · simp [h2]
    · rw [List.getElem?_eq_none (by simp; omega)]

set_option maxRecDepth 100000 in
set_option maxHeartbeats 1000000 in
theorem add_calls (vx vy : Value) (X Y : List Nat) (w : World) (hX : X.length ≤ 900) (hY : Y.length ≤ 900) (hx : Lm w vx X) (hy : Lm w vy Y) (bX : Bd X) (bY : Bd Y) :
    Calls Tryz.prog 137 #[vx, vy] w (RetV (val X + val Y) (max X.length Y.length + 1) w) := by
  obtain ⟨a, ca, rfl⟩ := hx.shape
  obtain ⟨a2, ca2, e2⟩ := hy.shape
  have HX := Lib.hid hx
  have HY := Lib.hid hy
  have HBX := Lib.hid bX
  have HBY := Lib.hid bY
  subst e2
  obtain ⟨n, hn⟩ : ∃ n, n = max X.length Y.length + 1 := ⟨_, rfl⟩
  have hn1 : X.length < n := by omega
  have hn2 : Y.length < n := by omega
  have hn3 : n ≤ 901 := by omega
  rw [← hn]
  have HN := Lib.hid hn
  clear hx hy bX bY hn
  by_cases hxy : X.length < Y.length
  all_goals
    go_enter Tryz.func137, Tryz.ntmps137
    go_wp2_with (first
      | (at_make; refine make_limbs rfl (.tmp 14) (.tmp 14) rfl _ n rfl rfl (by have := HN.out; omega) (by omega) ?_; intro w1 hR1 hB1 hs1)
      | ((refine copy_limbs rfl (.tmp 16) (.tmp 17) rfl w.heap.size n (List.replicate n 0) X (.slice a X.length ca) n (by simp) rfl rfl (HX.out.below hB1) hR1.out (by simp; omega) w.heap.size w hB1 (Nat.le_refl _) ?_); intro w2 hR2 hB2))
    go_loopw [6, 7, 8, 21] (fun c _ _ i wr => ∃ (S : List Nat) (k q : Nat), c = .int .u32 q ∧ i = .int .i64 k ∧ AddR n X Y S k q ∧ Row wr w.heap.size S ∧ Below w.heap.size w wr)
      (fun _ _ _ i _ => n - (intOf i).toNat)
    case atStart =>
      have h := hR2.out
      rw [List.drop_replicate] at h
      exact ⟨_, 0, 0, rfl, rfl, ⟨by simp; omega, Nat.zero_le _, fun j _ => lat_app_rep _ _ j, fun j => by rw [lat_app_rep]; exact HBX.out j, by omega, by simp [vt]⟩, h, hB2⟩
    case round =>
      obtain ⟨S, k, q, rfl, rfl, hS, hrow, hnx⟩ := hrel
      have HS := Lib.hid hS
      have HR := Lib.hid hrow
      have hkl := hS.le
      have hq := hS.c1
      have hf := hrow.frozen k
      clear hS hR1 hR2
      by_cases hlt : k < n
      · have hc := hrow.cell (j := k) (by rw [HS.out.len]; exact hlt)
        rw [HS.out.rest k (Nat.le_refl _)] at hc
        clear hrow
        have hy1 := HBY.out k
        have hx1 := HBX.out k
        have HLY := Lib.hid (fun m => limbAt_calls (.slice a2 Y.length ca2) Y (wr.drewN m) k (by omega) ((HY.out.below hnx).below (below_drewN (Below.refl _ _) m)))
        go_wp2_with fail
        go_quiet ((go_at_call 178; exact Calls.quiet_of_same ((HLY.out _).mono fun e w' ⟨he, hw⟩ => ⟨he, hw.symm⟩)))
        have HR' := Lib.hid (show Row (wr.drewN nq) w.heap.size S from HR.out)
        have hB' : Below w.heap.size w (wr.drewN nq) := below_drewN hnx nq
        have hc' : (wr.drewN nq).cell? ⟨w.heap.size, k, none⟩ = some (.int .u32 (lat X k : Nat)) := hc
        have hf' : (wr.drewN nq).frozen? ⟨w.heap.size, k, none⟩ = false := hf
        clear hc hf HR HLY hnx
        generalize wr.drewN nq = wq at HR' hB' hc' hf' ⊢
        go_wp2
        go_roundw
        case rel =>
          exact ⟨_, k + 1, (lat X k + lat Y k + q) / 1000000000, by go_num, by go_num, HS.out.step (v := (lat X k + lat Y k + q) % 1000000000) hlt (by omega) (by omega) (by omega), HR'.out.setI k _ (by omega), hB'.setCell (p := ⟨w.heap.size, k, none⟩) (Nat.le_refl _) _⟩
        case measure => simp [intOf]; omega
      · obtain rfl : k = n := by omega
        go_wp2_with (go_at_call 179; refine (trim_calls _ S wr (by rw [HS.out.len]; omega) (by have := HR.out.lm (cap := k) (by rw [HS.out.len]; exact Nat.le_refl _); rw [HS.out.len] at this; exact this)).mono ?_; rintro e w3 ⟨v, rfl, hl3, hb3⟩)
        go_ret
        exact add_fin HS.out hn1 hn2 HBX.out HBY.out hnx ⟨v, rfl, hl3, hb3⟩
end Go.Proofs.YtppapkpceejnkaaGreatDoor
namespace Go.Proofs.YtppapkpceejnkaaGreatDoor
open Go.Shelf Go.RowKit Go.Sort Go.Lib

end Go.Proofs.YtppapkpceejnkaaGreatDoor
namespace Go.Proofs.YtppapkpceejnkaaGreatDoor
open Go.RowKit Go.Shelf
open Go.Lib (decDigits nDigits repeatL)

attribute [local go_sem] Oper.semAt_some

/-- What is told of a number: its digits, or that they are too many. -/
def outS (n : Nat) : List UInt8 := if n < lim then decDigits n else []
def outE (n : Nat) : Nat := if n < lim then 0 else 11
def TellPost (n : Nat) (w : World) (e : Ending) (w' : World) : Prop := e = .returned (.tuple #[.string ⟨(outS n).toArray⟩, .int .i64 (outE n : Nat)]) ∧ Below w.heap.size w w'

theorem grown_of_below {A B : World} (h : Below A.heap.size A B) : A.grownBy B none := ⟨h.os, h.tape, h.output, h.size, fun k hk _ => h.block k hk⟩

theorem bld_kept {W W' : World} {row : Option Nat} {B b : Nat} {bs : List Value} (h : Lib.IsBuilderF 132 5 B b bs W) (hg : W.grownBy W' row) (hr : ∀ r, row = some r → ∃ o : Obj, W.heap[r]? = some o ∧ o.isCells = false) : Lib.IsBuilderF 132 5 B b bs W' := by
  have key : ∀ p, Lib.BuilderAtF 132 5 B b p bs W → Lib.BuilderAtF 132 5 B b p bs W' := by
    rintro p ⟨hB, v, hb, hown, hne⟩
    refine ⟨hB, v, (hg.block b (Array.getElem?_eq_some_iff.1 hb).1 (fun e => ?_)).trans hb, hown.kept hg ?_, hne⟩
    · obtain ⟨o, ho, hc⟩ := hr b e.symm
      rw [hb] at ho; cases ho; cases hc
    · rcases hown.2 with ⟨rfl, _⟩ | ⟨g, cap, cur, fz, rfl, _, hh, _⟩
      · exact .inl rfl
      · right
        intro e
        obtain ⟨o, ho, hc⟩ := hr g e.symm
        rw [hh] at ho; cases ho; cases hc
  exact h.elim (fun x => .inl (key _ x)) (fun x => .inr (key _ x))
theorem bld_below {W W' : World} {B b : Nat} {bs : List Value} (h : Lib.IsBuilderF 132 5 B b bs W) (hb : Below W.heap.size W W') : Lib.IsBuilderF 132 5 B b bs W' := bld_kept h (grown_of_below hb) (fun r e => by cases e)

theorem bld_own {β : Type} (B b : Nat) (f : β → List Value) : Own (fun s W => Lib.IsBuilderF 132 5 B b (f s) W) := fun _ _ _ _ hs hg hr => bld_kept hs hg hr

theorem outS_lt {n : Nat} (h : nDigits n ≤ 400) : outS n = decDigits n := by rw [outS, if_pos ((lim_iff n).1 h)]
theorem outE_lt {n : Nat} (h : nDigits n ≤ 400) : outE n = 0 := by rw [outE, if_pos ((lim_iff n).1 h)]
theorem outS_ge {n : Nat} (h : ¬ nDigits n ≤ 400) : outS n = [] := by rw [outS, if_neg (fun h' => h ((lim_iff n).2 h'))]
theorem outE_ge {n : Nat} (h : ¬ nDigits n ≤ 400) : outE n = 11 := by rw [outE, if_neg (fun h' => h ((lim_iff n).2 h'))]

theorem lim_le (b m : Nat) (hb : b = 10 ^ 9) (hm : 45 ≤ m) : lim ≤ b ^ m := by
  have h : ∀ k, k ≤ 9 * m → 10 ^ k ≤ b ^ m := fun k hk => by
    subst hb
    rw [← Nat.pow_mul]
    exact Nat.pow_le_pow_right (by omega) hk
  unfold lim
  exact h 400 (by omega)

theorem long_digits {L : List Nat} (nm : Nm L) (h : 45 < L.length) : ¬ nDigits (val L) ≤ 400 := by
  intro h1
  have h2 := (lim_iff _).1 h1
  have h3 := val_ge nm (by intro e; subst e; simp at h)
  have h4 := lim_le 1000000000 (L.length - 1) (by decide) (by omega)
  exact absurd (Nat.lt_of_lt_of_le h2 (Nat.le_trans h4 h3)) (Nat.lt_irrefl _)

set_option maxHeartbeats 400000 in
theorem tell_zero (a : Option Addr) (cap : Nat) (w : World) : Calls Tryz.prog 136 #[.slice a 0 cap] w (TellPost 0 w) := by
  go_enter Tryz.func136, Tryz.ntmps136
  go_wp2
  go_ret2
  exact ⟨by rw [outS_lt (by rw [Lib.nDigits_small (by omega)]; omega), outE_lt (by rw [Lib.nDigits_small (by omega)]; omega), Lib.decDigits_one (by omega)]; rfl, Below.refl _ _⟩

set_option maxHeartbeats 400000 in
theorem tell_long (L : List Nat) (nm : Nm L) (h : 45 < L.length) (hl : L.length ≤ 1000) (a : Option Addr) (cap : Nat) (w : World) : Calls Tryz.prog 136 #[.slice a L.length cap] w (TellPost (val L) w) := by
  have HE := Lib.hid (outE_ge (long_digits nm h))
  have HS := Lib.hid (outS_ge (long_digits nm h))
  have h0 : ((L.length : Int) == 0) = false := beq_eq_false_iff_ne.2 (by omega)
  clear nm
  go_enter Tryz.func136, Tryz.ntmps136
  go_wp2
  go_ret2
  exact ⟨by rw [HE.out, HS.out]; rfl, Below.refl _ _⟩

theorem write_calls (B b : Nat) (t : List UInt8) (s : List UInt8) (w : World) (h : Lib.IsBuilderF 132 5 B b (Lib.byteCells t) w) (hlen : t.length + s.length ≤ 10000) (hBw : B ≤ w.heap.size) :
    Calls Tryz.prog 147 #[.pointer (some ⟨b, 0, none⟩), .string ⟨s.toArray⟩] w fun e w' => e = .returned (.tuple #[.int .i64 (s.length : Int), .nilIface]) ∧ Lib.IsBuilderF 132 5 B b (Lib.byteCells (t ++ s)) w' ∧ Below B w w' ∧ Lib.OthersKept 5 (some b) w w' := by
  refine (Any.Builder_WriteString_k (ρ := Tryz.lays105_ren) { Tryz.lays105 with } Tryz.Builder_Extra_105 B b (Lib.byteCells t) ⟨s.toArray⟩ w h (by rw [Lib.byteCells_length]; show _ + s.length ≤ _; omega) hBw).mono ?_
  rintro e w' ⟨rfl, h1, h2, h3⟩
  refine ⟨rfl, .inr ?_, h2, h3⟩
  rw [Lib.byteCells_append]
  exact h1

theorem rep_calls (n : Int) (c : Nat) (w : World) (hn : n = (c : Int)) (hc : c ≤ 9) : Calls Tryz.prog 173 #[.string ⟨#[48]⟩, .int .i64 n] w fun e w' => e = .returned (.string ⟨(repeatL [48] c).toArray⟩) ∧ Below w.heap.size w w' := by
  subst hn
  exact Tryz.strings_Repeat ⟨#[48]⟩ c w (by omega) (by show 1 * c ≤ _; omega)

theorem kpt_below {S : Nat → Prop} {W W' : World} (h : Below W.heap.size W W') (hS : ∀ k, S k → k < W.heap.size) : Kpt S W W' := ⟨h.size, fun k hk => h.block k (hS k hk)⟩

theorem keeps_others {W W' : World} {b B : Nat} (h : Lib.OthersKept 5 (some b) W W') (hs : W.heap.size ≤ W'.heap.size) (hb : b < B) : KeepsFrom B W W' :=
  ⟨hs, fun k o hk ho hc => h k o ho (fun e => by cases e; omega) (fun c fz e => by subst e; cases hc)⟩
theorem keeps_below {W W' : World} (B : Nat) (h : Below W.heap.size W W') : KeepsFrom B W W' :=
  ⟨h.size, fun k _ _ ho _ => (h.block k (Array.getElem?_eq_some_iff.1 ho).1).trans ho⟩
theorem boxed_others {W W' : World} {b B : Nat} {t : TypeId} {v : Value} (h : Lib.OthersKept 5 (some b) W W') (hB : Boxed W B t v) (hne : B ≠ b) (ht : t ≠ 5) : Boxed W' B t v :=
  h B _ hB (fun e => hne (by cases e; rfl)) (fun c fz e => ht (by cases e; rfl))
theorem boxed_below {W W' : World} {B : Nat} {t : TypeId} {v : Value} (h : Below W.heap.size W W') (hB : Boxed W B t v) : Boxed W' B t v := (h.block B hB.lt).trans hB

set_option maxRecDepth 100000 in
set_option maxHeartbeats 2000000 in
theorem tell_main (L : List Nat) (v : Value) (a : Option Addr) (cap : Nat) (ev : v = .slice a L.length cap) (w : World) (h1 : 1 ≤ L.length) (h45 : L.length ≤ 45) (hx : Lm w v L) (bd : Bd L) (nm : Nm L) (htab : Tab w) :
    Calls Tryz.prog 136 #[v] w (TellPost (val L) w) := by
  subst ev
  have h0 : ((L.length : Int) == 0) = false := beq_eq_false_iff_ne.2 (by omega)
  have hd0 : decide (45 < (L.length : Int)) = false := by simp; omega
  refine (callsIn_wide (n := 5)).1 ?_
  refine callsIn_of_wp_marks Tryz.func136 rfl trivial ?_ rfl
  simp only [Tryz.ntmps136, List.size_toArray, List.length_cons, List.length_nil, Nat.reduceAdd, Nat.reduceSub, Array.replicate_succ, Array.replicate_zero, List.push_toArray, List.append_toArray, List.nil_append, List.cons_append]
  have HX := Lib.hid hx
  have HBd := Lib.hid bd
  have HNm := Lib.hid nm
  have HT := Lib.hid htab
  clear hx bd nm htab
  gi_wp2_with (refine ⟨trivial, ?_⟩; gi_at_call 176; refine (back_in _ _ _ _ _ _ rfl).mono ?_; rintro e w' ⟨rfl, rfl⟩)
  obtain ⟨W0, hW0⟩ : ∃ W0, W0 = ((w.alloc (.cells #[.int .i64 ((L.length : Int) - 1)] 3)).alloc (.cells #[.pointer none, .slice none 0 0] 132)).alloc (.cells #[.slice a L.length cap] 194) := ⟨_, rfl⟩
  have bT : Boxed W0 w.heap.size 3 (.int .i64 ((L.length : Int) - 1)) := by rw [hW0]; exact ((Boxed.new w 3 _).alloc _).alloc _
  have bX : Boxed W0 (w.heap.size + 1 + 1) 194 (.slice a L.length cap) := by
    rw [hW0]
    have := Boxed.new ((w.alloc (.cells #[.int .i64 ((L.length : Int) - 1)] 3)).alloc (.cells #[.pointer none, .slice none 0 0] 132)) 194 (.slice a L.length cap)
    rw [World.size_alloc, World.size_alloc] at this
    exact this
  have hBd : Lib.IsBuilderF 132 5 (w.heap.size + 1) (w.heap.size + 1) (Lib.byteCells []) W0 := by
    refine .inl ⟨Nat.le_refl _, .slice none 0 0, ?_, World.ownsRowF_nil _ _ _ _, by simp [Value.ownBlock]⟩
    rw [hW0]
    have h := World.alloc_heap_new (w.alloc (.cells #[.int .i64 ((L.length : Int) - 1)] 3)) (.cells #[.pointer none, .slice none 0 0] 132)
    rw [World.size_alloc] at h
    exact (Below.heap_alloc _ _ _ (by simp)).trans h
  have hB0 : Below w.heap.size w W0 := by rw [hW0]; exact (((Below.refl _ w).alloc (Nat.le_refl _) _).alloc (by simp) _).alloc (by simp; omega) _
  have hs0 : W0.heap.size = w.heap.size + 3 := by rw [hW0]; simp
  rw [← hW0]
  have HS0 := Lib.hid hs0
  clear hW0 hs0
  refine wpIn_rangeFunc_ownG rfl (by omega) (gf := 208) (lb := #[.pointer (some ⟨w.heap.size + 1 + 1, 0, none⟩)]) rfl trivial (enters_of Tryz.func208 (by kernel_rfl) rfl)
    (back_stops (5 - 1) (by omega) (w.heap.size + 1 + 1) (fun k => k < w.heap.size ∨ k = w.heap.size + 1 + 1) (.slice a L.length cap) L (by omega) _ (by rw [HS0.out]; omega) (.inr rfl) bX.cell (HX.out.below hB0)
      (fun b' off len cap e => by
        rcases HX.out with ⟨e2, _⟩ | ⟨b2, off2, cap2, e2, _, h2, _⟩
        · rw [e] at e2; cases e2
        · rw [e] at e2; cases e2; exact .inl h2)) Kpt.trans (Kpt.book (by rintro k (h | h) <;> rw [HS0.out] <;> omega)) (Below.refl _ _) (fun _ => rfl)
    (fun pre W => ((Boxed W w.heap.size 3 (.int .i64 ((L.length : Int) - 1)) ∧ Boxed W (w.heap.size + 1 + 1) 194 (.slice a L.length cap)) ∧ (Lib.IsBuilderF 132 5 (w.heap.size + 1) (w.heap.size + 1) (Lib.byteCells (txt (L.length - 1) (pre.map (·.1)))) W ∧ (txt (L.length - 1) (pre.map (·.1))).length ≤ 9 * pre.length)) ∧ Below w.heap.size w W)
    (fun _ _ _ => False)
    (OwnFrom.and (OwnFrom.and (OwnFrom.and (Own.from (boxed_own _ _ _) _) (Own.from (boxed_own _ _ _) _)) (OwnFrom.and (Own.from (bld_own _ _ _) _) (ownFrom_pure _ _))) (ownFrom_below (Nat.le_refl _) (by rw [HS0.out]; omega)))
    (fun _ _ _ _ _ hs _ _ => hs)
    ⟨⟨⟨bT, bX⟩, ⟨hBd, by simp [txt]⟩⟩, hB0⟩
    (fun x => { tmps := #[.slice a L.length cap, undef, .string ⟨#[]⟩, .int .i64 0, .pointer (some ⟨w.heap.size, 0, none⟩), .pointer (some ⟨w.heap.size + 1, 0, none⟩), .int .i64 (x.1.1 : Int), .int .u32 (x.1.2 : Int), undef, .slice a L.length cap, .int .i64 (L.length : Int), .bool false, .slice a L.length cap, .int .i64 (L.length : Int), .bool false, .slice a L.length cap, .int .i64 (L.length : Int), .int .i64 ((L.length : Int) - 1), .slice a L.length cap, .func (.func 208) #[] #[.pointer (some ⟨w.heap.size + 1 + 1, 0, none⟩)], .int .i64 (x.1.1 : Int), .int .u32 (x.1.2 : Int), undef, undef, undef, undef, undef, undef, undef, undef, undef, undef, undef, undef, undef, undef, undef, undef], defers := [] }) ?assign ?body ?done ?stop
  case assign =>
    intro l x W K hK
    gi_wp2
    exact hK
  case body =>
    rintro l pre x W ⟨⟨⟨hT, hX⟩, ⟨hb, hlen⟩⟩, hB⟩ hpl
    have hi := x.2.1
    have hx2 : x.1.2 < 1000000000 := by rw [x.2.2]; exact HBd.out _
    have HTW := Lib.hid (HT.out.below hB)
    have hcT := hT.cell
    have HB := Lib.hid hb
    clear hb
    have hnd : (decDigits x.1.2).length ≤ 9 := by rw [Lib.decDigits_length]; exact nDigits_le (by omega) hx2
    have ht9 : (txt1 (L.length - 1) x.1).length ≤ 9 := txt1_le hx2
    have HTx : Hid (txt (L.length - 1) ((pre ++ [x]).map (·.1)) = txt (L.length - 1) (pre.map (·.1)) ++ txt1 (L.length - 1) x.1) := by rw [List.map_append]; exact txt_snoc _ _ _
    by_cases hi2 : x.1.1 < L.length - 1
    · have hlt : (x.1.1 : Int) < (L.length : Int) - 1 := by omega
      have HT1 : Hid (txt1 (L.length - 1) x.1 = repeatL [48] (9 - (decDigits x.1.2).length) ++ decDigits x.1.2) := by rw [txt1, if_pos hi2]; rfl
      gi_wp2_with (first
        | (refine ⟨trivial, ?_⟩; gi_at_call 138; refine (CallsIn.inRound l (callsIn_wide.2 (formatUint_calls x.1.2 (by omega) W HTW.out))).mono ?_; rintro e W1 ⟨rfl, hb1⟩; have hT1 := boxed_below hb1 hT; have hX1 := boxed_below hb1 hX; have hcT1 := hT1.cell; clear hcT))
      refine ⟨trivial, ?_⟩
      refine (CallsIn.inRound l (callsIn_wide.2 (rep_calls _ (9 - (decDigits x.1.2).length) W1 (by omega) (by omega)))).mono ?_
      rintro e W2 ⟨rfl, hb2⟩
      have hb12 : Below W.heap.size W W2 := hb1.trans (hb2.mono hb1.size)
      have HB2 := Lib.hid (bld_below HB.out hb12)
      have hT2 := boxed_below hb12 hT
      have hX2 := boxed_below hb12 hX
      have hs2 := hX2.lt
      clear hcT1
      gi_wp2_with (fail)
      refine ⟨trivial, ?_⟩
      refine (CallsIn.inRound l (callsIn_wide.2 (write_calls (w.heap.size + 1) (w.heap.size + 1) _ _ W2 HB2.out (by rw [Lib.repeatL_length]; simp; omega) (by omega)))).mono ?_
      rintro e W3 ⟨rfl, hB3, hb3, ho3⟩
      have HB3 := Lib.hid hB3
      have hT3 := boxed_others ho3 hT2 (by omega) (by decide)
      have hX3 := boxed_others ho3 hX2 (by omega) (by decide)
      have hs3 := hX3.lt
      clear hB3
      gi_wp2_with (fail)
      refine ⟨trivial, ?_⟩
      refine (CallsIn.inRound l (callsIn_wide.2 (write_calls (w.heap.size + 1) (w.heap.size + 1) _ _ W3 HB3.out (by rw [List.length_append, Lib.repeatL_length]; simp; omega) (by omega)))).mono ?_
      rintro e W4 ⟨rfl, hB4, hb4, ho4⟩
      have HB4 := Lib.hid hB4
      have hT4 := boxed_others ho4 hT3 (by omega) (by decide)
      have hX4 := boxed_others ho4 hX3 (by omega) (by decide)
      clear hB4
      gi_wp2
      have hbW : Below w.heap.size W W4 := (hb12.mono hB.size).trans ((hb3.mono (by omega)).trans (hb4.mono (by omega)))
      refine ⟨(keeps_below _ hb12).trans ((keeps_others ho3 hb3.size (by rw [HS0.out]; omega)).trans (keeps_others ho4 hb4.size (by rw [HS0.out]; omega))), ⟨hbW.size, ?_⟩, ⟨⟨hT4, hX4⟩, ⟨?_, ?_⟩⟩, hB.trans hbW⟩
      · rintro k (h | rfl)
        · exact hbW.block k h
        · exact hX4.trans hX.symm
      · rw [HTx.out, HT1.out, ← List.append_assoc]; exact HB4.out
      · rw [HTx.out]; simp; omega
    · have hlt : ¬ (x.1.1 : Int) < (L.length : Int) - 1 := by omega
      have HT1 : Hid (txt1 (L.length - 1) x.1 = decDigits x.1.2) := by rw [txt1, if_neg hi2]; rfl
      gi_wp2_with (first
        | (refine ⟨trivial, ?_⟩; gi_at_call 138; refine (CallsIn.inRound l (callsIn_wide.2 (formatUint_calls x.1.2 (by omega) W HTW.out))).mono ?_; rintro e W1 ⟨rfl, hb1⟩; have hT1 := boxed_below hb1 hT; have hX1 := boxed_below hb1 hX; have hcT1 := hT1.cell; clear hcT))
      have HB2 := Lib.hid (bld_below HB.out hb1)
      have hs2 := hX1.lt
      clear hcT1
      refine ⟨trivial, ?_⟩
      refine (CallsIn.inRound l (callsIn_wide.2 (write_calls (w.heap.size + 1) (w.heap.size + 1) _ _ W1 HB2.out (by omega) (by omega)))).mono ?_
      rintro e W4 ⟨rfl, hB4, hb4, ho4⟩
      have HB4 := Lib.hid hB4
      have hT4 := boxed_others ho4 hT1 (by omega) (by decide)
      have hX4 := boxed_others ho4 hX1 (by omega) (by decide)
      clear hB4
      gi_wp2
      have hbW : Below w.heap.size W W4 := (hb1.mono hB.size).trans (hb4.mono (by omega))
      refine ⟨(keeps_below _ hb1).trans (keeps_others ho4 hb4.size (by rw [HS0.out]; omega)), ⟨hbW.size, ?_⟩, ⟨⟨hT4, hX4⟩, ⟨?_, ?_⟩⟩, hB.trans hbW⟩
      · rintro k (h | rfl)
        · exact hbW.block k h
        · exact hX4.trans hX.symm
      · rw [HTx.out, HT1.out]; exact HB4.out
      · rw [HTx.out]; simp; omega
  case done =>
    rintro D ys W hD hys ⟨⟨⟨hT, hX⟩, ⟨hb, hlen⟩⟩, hB⟩ hK
    rw [hys, txt_back HBd.out HNm.out h1 (Nat.le_refl _), hv_all] at hb
    have HB := Lib.hid hb
    have hs := hX.lt
    have HLn : Hid ((Lib.byteCells (decDigits (val L))).length = nDigits (val L)) := by rw [Lib.byteCells_length, Lib.decDigits_length]; rfl
    clear hb hys hlen
    gi_wp2_with (fail)
    refine ⟨trivial, ?_⟩
    refine (callsIn_wide.2 (Any.Builder_Len_f (ρ := Tryz.lays105_ren) { Tryz.lays105 with } (w.heap.size + 1) (w.heap.size + 1) _ W HB.out)).mono ?_
    rintro e W1 ⟨rfl, rfl⟩
    rw [HLn.out]
    by_cases hn : nDigits (val L) ≤ 400
    · have hn1 : decide ((400 : Int) < (nDigits (val L) : Int)) = false := by simp; omega
      have HS := Lib.hid (outS_lt hn)
      have HE := Lib.hid (outE_lt hn)
      gi_wp2_with (fail)
      refine ⟨trivial, ?_⟩
      refine (callsIn_wide.2 (Any.Builder_String_any_k (ρ := Tryz.lays105_ren) { Tryz.lays105 with } Tryz.Builder_Extra_105 (w.heap.size + 1) (w.heap.size + 1) _ _ HB.out (by omega))).mono ?_
      rintro e W2 ⟨rfl, _, hb2, ho2⟩
      gi_wp2
      have hK2 : W2.heap[D]? = some (.deferred (some [])) := ho2 D _ hK (fun e => by cases e; rw [HS0.out] at hD; omega) (fun c fz e => by cases e)
      refine ⟨by simp, .inl ⟨_, _, rfl, run_takeDeferred hK2, ?_⟩⟩
      exact ⟨_, results_tmp2 rfl _ _ _, by rw [HS.out, HE.out]; rfl, (hB.trans (hb2.mono (by omega))).trans (belowK_b (w := w) (Nat.le_refl _) _ D _ _ (by rw [HS0.out] at hD; omega) hK2 rfl rfl)⟩
    · have hn1 : decide ((400 : Int) < (nDigits (val L) : Int)) = true := by simp; omega
      have HS := Lib.hid (outS_ge hn)
      have HE := Lib.hid (outE_ge hn)
      gi_wp2
      refine ⟨by simp, .inl ⟨_, _, rfl, run_takeDeferred hK, ?_⟩⟩
      exact ⟨_, results_tmp2 rfl _ _ _, by rw [HS.out, HE.out]; rfl, hB.trans (belowK_b (w := w) (Nat.le_refl _) _ D _ _ (by rw [HS0.out] at hD; omega) hK rfl rfl)⟩
  case stop =>
    rintro D c pre W _ _ h _
    exact h.elim

theorem tell_calls (L : List Nat) (v : Value) (w : World) (hl : L.length ≤ 1000) (hx : Lm w v L) (bd : Bd L) (nm : Nm L) (htab : Tab w) : Calls Tryz.prog 136 #[v] w (TellPost (val L) w) := by
  obtain ⟨a, cap, ev⟩ := hx.shape
  by_cases h0 : L = []
  · subst h0 ev
    exact tell_zero a cap w
  · have h1 : 1 ≤ L.length := List.length_pos_iff.2 h0
    by_cases h45 : 45 < L.length
    · subst ev
      exact tell_long L nm h45 hl a cap w
    · exact tell_main L v a cap ev w h1 (by omega) hx bd nm htab
end Go.Proofs.YtppapkpceejnkaaGreatDoor
namespace Go.Proofs.YtppapkpceejnkaaGreatDoor
open Go.RowKit

set_option maxRecDepth 100000 in
set_option maxHeartbeats 1000000 in
theorem Add_yes (sa sb : ByteArray) (w : World) (ha : isNat sa.data.toList = true) (hb : isNat sb.data.toList = true) (htab : Tab w) :
    Calls Tryz.prog 99 #[.string sa, .string sb] w (TellPost (dv sa.data.toList + dv sb.data.toList) w) := by
  have HT := Lib.hid htab
  clear htab
  have HA := Lib.hid ha
  have HB := Lib.hid hb
  clear ha hb
  go_enter Tryz.func99, Tryz.ntmps99
  go_wp2_with (go_at_call 135; refine (readAll_yes sa sb w.heap.size _ (by simp) (by simp) (by simp) HA.out HB.out).mono ?_; rintro e w1 ⟨g, cap, hcap, rfl, ⟨R1, v1, R2, v2, hc0, hc1, hg, h1, h2⟩, hb1⟩)
  obtain ⟨hl1, hd1, hn1, hv1, hr1⟩ := h1
  obtain ⟨hl2, hd2, hn2, hv2, hr2⟩ := h2
  obtain ⟨a1, c1, rfl⟩ := hl1.shape
  obtain ⟨a2, c2, rfl⟩ := hl2.shape
  have HL1 := Lib.hid hl1
  have HL2 := Lib.hid hl2
  have HV1 := Lib.hid hv1
  have HV2 := Lib.hid hv2
  have hb0 : Below w.heap.size w w1 := ((Below.refl _ w).alloc (Nat.le_refl _) _).trans (hb1.mono (by simp))
  have HB1 := Lib.hid hb0
  clear hl1 hl2 hv1 hv2 hb1 hb0
  have hbd : Below w1.heap.size w1 w1.drew := (Below.refl _ _).drew
  have HL1' := Lib.hid (HL1.out.below hbd)
  have HL2' := Lib.hid (HL2.out.below hbd)
  have HB2 := Lib.hid (HB1.out.drew)
  have HT2 := Lib.hid (HT.out.below HB2.out)
  go_region_with (first
    | (go_at_call 137; refine (add_calls _ _ R1 R2 _ (by omega) (by omega) HL1'.out HL2'.out hd1 hd2).mono ?_; rintro e w3 ⟨R3, v3, rfl, hl3, hd3, hn3, hv3, hr3, hb3⟩; have HL3 := Lib.hid hl3; have HV3 := Lib.hid hv3; have HT3 := Lib.hid (HT2.out.below hb3); clear hl3 hv3)
    | (go_at_call 136; refine (tell_calls R3 _ _ (by omega) HL3.out hd3 hn3 HT3.out).mono ?_; rintro e w4 ⟨rfl, hb4⟩))
  all_goals go_wp2
  all_goals go_ret2
  all_goals exact ⟨by rw [HV3.out, HV1.out, HV2.out]; rfl, (HB2.out.trans (hb3.mono HB2.out.size)).trans (hb4.mono (by have := hb3.size; have := HB2.out.size; omega))⟩

set_option maxRecDepth 100000 in
set_option maxHeartbeats 1000000 in
theorem Add_no (sa sb : ByteArray) (w : World) (hab : (isNat sa.data.toList && isNat sb.data.toList) = false) :
    Calls Tryz.prog 99 #[.string sa, .string sb] w fun e w' => e = .returned (.tuple #[.string ⟨#[]⟩, .int .i64 10]) ∧ Below w.heap.size w w' := by
  have HAB := Lib.hid hab
  clear hab
  go_enter Tryz.func99, Tryz.ntmps99
  go_wp2_with (go_at_call 135; refine (readAll_no sa sb w.heap.size _ (by simp) (by simp) (by simp) HAB.out).mono ?_; rintro e w1 ⟨rfl, hb1⟩)
  go_ret2
  exact ⟨rfl, ((Below.refl _ w).alloc (Nat.le_refl _) _).trans (hb1.mono (by simp))⟩

end Go.Proofs.YtppapkpceejnkaaGreatDoor
