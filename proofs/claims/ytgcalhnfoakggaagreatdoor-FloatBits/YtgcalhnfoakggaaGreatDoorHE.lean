/- The program's own: Least. -/
import Derived.Test.YtgcalhnfoakggaaGreatDoorHD
namespace Go.Proofs.YtgcalhnfoakggaaGreatDoor
open Go.RowKit Go.Shelf

attribute [local go_sem] Oper.semAt_some

theorem region_round {P : Program} {N l₀ id : Nat} {Q : Exit → Act → World → Prop} {a : Act} {w : World} {l : List Oper} (hm : P.follows .mixedOrders = true)
    (hd : l.all (fun o => match o.op with | .defer _ => false | _ => true) = true) (hno : ¬ LetsOut Q)
    (h : wpAny P .any l.toArray Q l.toArray.size (Array.replicate l.toArray.size false) a w.drew) : (Code.region id l.toArray true).wpIn (Fence.wide.inRound l₀) N P Q a w := by
  refine wpIn_region_any hm (wpAny_in_round (fun i o ho c e => ?_) hno _ _ _ _ h)
  have hm := List.all_eq_true.1 hd o (by rw [List.getElem?_toArray] at ho; exact List.mem_of_getElem? ho)
  rw [e] at hm
  cases hm

theorem keepsO_below {A B : World} (h : Below A.heap.size A B) : KeepsOthers A B := ⟨h.size, fun k _ hk _ => (h.block k (Array.getElem?_eq_some_iff.1 hk).1).trans hk⟩
theorem least_of {b : Nat} {pre ini : List (Fin 3)} {x : Fin 3} (hpre : pre = [0] ∨ pre = [0, 1] ∨ pre = [0, 1, 2]) (he : pre = ini ++ [x]) (hs : (narO b (frW x)).isSome = true) (hn : ∀ y ∈ ini, narO b (frW y) = none) : leastW b = frW x := by
  have n16 : narO b 16 = none → ¬ wid16 (nar16 b) = b := fun h e => by rw [narO, if_pos rfl, if_pos e] at h; cases h
  have n32 : narO b 32 = none → ¬ wid32 (nar32 b) = b := fun h e => by rw [narO, if_neg (by decide), if_pos rfl, if_pos e] at h; cases h
  have s16 : (narO b 16).isSome = true → wid16 (nar16 b) = b := fun h => by
    rw [narO, if_pos rfl] at h
    split at h
    · assumption
    · cases h
  have s32 : (narO b 32).isSome = true → wid32 (nar32 b) = b := fun h => by
    rw [narO, if_neg (by decide), if_pos rfl] at h
    split at h
    · assumption
    · cases h
  rcases hpre with rfl | rfl | rfl
  · have h1 := List.append_inj' (show [] ++ [(0 : Fin 3)] = ini ++ [x] from he) rfl
    obtain ⟨rfl, h2⟩ := h1
    cases h2
    rw [leastW, if_pos (s16 hs)]; rfl
  · have h1 := List.append_inj' (show [(0 : Fin 3)] ++ [1] = ini ++ [x] from he) rfl
    obtain ⟨rfl, h2⟩ := h1
    cases h2
    rw [leastW, if_neg (n16 (hn 0 (by simp))), if_pos (s32 hs)]; rfl
  · have h1 := List.append_inj' (show [(0 : Fin 3), 1] ++ [2] = ini ++ [x] from he) rfl
    obtain ⟨rfl, h2⟩ := h1
    cases h2
    rw [leastW, if_neg (n16 (hn 0 (by simp))), if_neg (n32 (hn 1 (by simp)))]; rfl

set_option maxRecDepth 100000 in
set_option maxHeartbeats 600000 in
theorem Least_calls (b : Nat) (w : World) (hb : b < 18446744073709551616) (hT : Tw w) : Calls Tryz.prog 14 #[.int .u64 (b : Int)] w fun o w' => o = .returned (.int .i64 (leastW b)) ∧ Below w.heap.size w w' := by
  have HT := Lib.hid hT
  have HU := Lib.hid (fun x W h => turn_from x b W hb h)
  have hmx : Tryz.prog.follows .mixedOrders = true := by kernel_rfl
  clear hT
  refine (callsIn_wide (n := 5)).1 ?_
  refine callsIn_of_wp_marks Tryz.func14 rfl trivial ?_ rfl
  simp only [Tryz.ntmps14, List.size_toArray, List.length_cons, List.length_nil, Nat.reduceAdd, Nat.reduceSub, Array.replicate_succ, Array.replicate_zero, List.push_toArray, List.append_toArray, List.nil_append, List.cons_append]
  gi_wp2
  refine scope_in ?_
  gi_wp2
  refine label_in ?_
  gi_wp2_with (refine ⟨trivial, ?_⟩; gi_at_call 26; refine (asc_in _ _).mono ?_; rintro o w1 ⟨rfl, rfl⟩)
  obtain ⟨W0, hW0⟩ : ∃ W0, W0 = (w.alloc (.cells #[.int .u64 (b : Int)] 22)).alloc (.cells #[.int .i64 64] 3) := ⟨_, rfl⟩
  have a1 : At W0 w.heap.size #[.int .u64 (b : Int)] 22 := by
    rw [hW0]; exact (At.new w _ _).alloc _
  have a2 : At W0 (w.heap.size + 1) #[.int .i64 64] 3 := by
    rw [hW0]; exact At.new1 w _ _ _
  have hB0 : Below w.heap.size w W0 := by rw [hW0]; exact below_al (below_al (Below.refl _ w) _) _
  have hs0 : W0.heap.size = w.heap.size + 2 := by rw [hW0]; simp
  rw [← hW0]
  have HS0 := Lib.hid hs0
  have HT0 := Lib.hid (HT.out.below hB0)
  clear hW0 hs0
  refine wpIn_rangeFunc_ownH rfl (by omega) (gf := 42) (lb := #[]) rfl trivial (enters_of Tryz.func42 (by kernel_rfl) rfl)
    (asc_stops (5 - 1) (by omega) _ HT0.out.1) KeepsWalks.trans (fun W l o o' _ h _ hw => KeepsWalks.putObj o' h hw) (Below.refl _ _) (fun _ => rfl)
    (fun pre W => (((∀ y ∈ pre, narO b (frW y) = none) ∧ At W w.heap.size #[.int .u64 (b : Int)] 22) ∧ At W (w.heap.size + 1) #[.int .i64 64] 3) ∧ Below w.heap.size w W)
    (fun c pre W => (c = .exit 0 ∧ ∃ (ini : List (Fin 3)) (x : Fin 3), pre = ini ++ [x] ∧ (narO b (frW x)).isSome = true ∧ (∀ y ∈ ini, narO b (frW y) = none) ∧ At W (w.heap.size + 1) #[.int .i64 (frW x)] 3) ∧ Below w.heap.size w W)
    (OwnFrom.and (OwnFrom.and (OwnFrom.and (ownFrom_pure _ _) (Own.from (at_own _ _ _) _)) (Own.from (at_own _ _ _) _)) (ownFrom_below (Nat.le_refl _) (by rw [HS0.out]; omega)))
    (fun c => OwnFrom.and (fun _ _ _ _ hs hg hr => by
      obtain ⟨h1, ini, x, h2, h3, h4, h5⟩ := hs
      exact ⟨h1, ini, x, h2, h3, h4, at_kept h5 hg (fun r e => (hr r e).2)⟩) (ownFrom_below (Nat.le_refl _) (by rw [HS0.out]; omega)))
    ⟨⟨⟨by simp, a1⟩, a2⟩, hB0⟩
    (fun x a' W => ∃ C, w.heap.size + 2 ≤ C ∧ At W C #[.int .i64 (frK x), .int .i64 (frP x), .int .i64 (frW x)] 42 ∧ a' = { tmps := #[.int .u64 (b : Int), .pointer (some ⟨w.heap.size, 0, none⟩), .int .i64 0, .pointer (some ⟨w.heap.size + 1, 0, none⟩), .pointer (some ⟨C, 0, none⟩), undef, undef, .func (.func 42) #[] #[], .agg #[.int .i64 (frK x), .int .i64 (frP x), .int .i64 (frW x)], undef, undef, undef, undef, undef, undef, undef, undef, undef, undef, undef], defers := [] })
    (fun x a' _ _ _ _ hs hg hr => by
      obtain ⟨C, h1, h2, h3⟩ := hs
      exact ⟨C, h1, at_kept h2 hg (fun r e => (hr r e).2), h3⟩)
    ?_ ?_ ?_ ?_
  · intro l pre x W K hI hK
    have hz : w.heap.size + 2 ≤ W.heap.size := by have := hI.1.2.lt; omega
    have HI := Lib.hid hI
    have HK := Lib.hid hK
    clear hI hK a1 a2 hB0
    simp only [frV]
    gi_wp2
    obtain ⟨⟨⟨i1, i2⟩, i3⟩, i6⟩ := HI.out
    exact HK.out _ _ ((KeepsOthers.alloc _ _).from _) (KeepsWalks.alloc _ _) ⟨⟨⟨i1, i2.alloc _⟩, i3.alloc _⟩, below_al i6 _⟩ ⟨_, hz, At.new _ _ _, rfl⟩
  · rintro l pre x a' W hl hlo ⟨⟨⟨i1, i2⟩, i3⟩, i6⟩ ⟨C, hC, h2, rfl⟩ hlen
    have HI1 := Lib.hid i1
    have HI2 := Lib.hid (show At W.drew _ _ _ from i2)
    have HI3 := Lib.hid (show At W.drew _ _ _ from i3)
    have HI6 := Lib.hid i6.drew
    have HKe := Lib.hid (KeepsOthers.drew W)
    have HC := Lib.hid (show At W.drew _ _ _ from h2)
    have HUx := Lib.hid (HU.out x)
    obtain ⟨R, hR⟩ : ∃ R, narO b (frW x) = R := ⟨_, rfl⟩
    rw [hR] at HUx
    have HR := Lib.hid hR
    clear i1 i2 i3 i6 h2 a1 a2 hB0 hlo hR
    rcases R with _ | c
    · simp only [trV] at HUx
      gi_wp2
      refine region_round hmx (by kernel_rfl) (by rintro ⟨_, _, h⟩; exact h) ?_
      refine wpAny_of_held (S := fun w' => w'.cell? ⟨w.heap.size, 0, none⟩ = some (.int .u64 (b : Int)) ∧ w'.cell? ⟨C, 0, none⟩ = some (.int .i64 (frK x)) ∧ w'.cell? ⟨C, 1, none⟩ = some (.int .i64 (frP x)) ∧ w'.cell? ⟨C, 2, none⟩ = some (.int .i64 (frW x))) _ _ _ _ ?_
      have hHeld : W.drew.cell? ⟨w.heap.size, 0, none⟩ = some (.int .u64 (b : Int)) ∧ W.drew.cell? ⟨C, 0, none⟩ = some (.int .i64 (frK x)) ∧ W.drew.cell? ⟨C, 1, none⟩ = some (.int .i64 (frP x)) ∧ W.drew.cell? ⟨C, 2, none⟩ = some (.int .i64 (frW x)) := ⟨HI2.out.c 0 rfl, HC.out.c 0 rfl, HC.out.c 1 rfl, HC.out.c 2 rfl⟩
      refine wpAnyH_take (i := 0) (v := .int .u64 (b : Int)) rfl (by kernel_rfl) (by kernel_rfl) (by kernel_rfl) (fun _ _ _ h => h) (Or.inl ⟨by rfl, by rintro w ⟨h1, h2, h3, h4⟩; go_simp⟩) hHeld ?_
      refine wpAnyH_take (i := 2) (v := .agg #[.int .i64 (frK x), .int .i64 (frP x), .int .i64 (frW x)]) rfl (by kernel_rfl) (by kernel_rfl) (by kernel_rfl) (fun _ _ _ h => h) (Or.inl ⟨by rfl, by rintro w ⟨h1, h2, h3, h4⟩; go_simp⟩) hHeld ?_
      refine wpAnyH_ready (rs := [1]) (by kernel_rfl) (by simp) ?_
      refine AllReadyH.cons rfl (fun K hK => ?_) AllReadyH.nil
      go_simp
      refine (widest_calls _ (HT.out.below HI6.out).1).mono ?_
      rintro o w2 ⟨rfl, hb2⟩
      unfold fmV
      have J2 := Lib.hid (HI2.out.below hb2)
      have J3 := Lib.hid (HI3.out.below hb2)
      have JC := Lib.hid (HC.out.below hb2)
      have J6 := Lib.hid (below_next HI6.out hb2)
      have JK := Lib.hid (HKe.out.trans (keepsO_below hb2))
      clear hb2 HI2 HI3 HC HI6 HKe hHeld
      refine hK.out _ _ ⟨J2.out.c 0 rfl, JC.out.c 0 rfl, JC.out.c 1 rfl, JC.out.c 2 rfl⟩ (fun hHeld => ?_)
      clear hK K
      refine wpAnyH_ready (rs := [3]) (by kernel_rfl) (by simp) ?_
      refine AllReadyH.cons rfl (fun K hK => ?_) AllReadyH.nil
      go_simp
      refine (HUx.out _ (HT.out.below J6.out).2).mono ?_
      rintro o w3 ⟨rfl, hb3⟩
      have M2 := Lib.hid (J2.out.below hb3)
      have M3 := Lib.hid (J3.out.below hb3)
      have MC := Lib.hid (JC.out.below hb3)
      have M6 := Lib.hid (below_next J6.out hb3)
      have MK := Lib.hid (JK.out.trans (keepsO_below hb3))
      clear hb3 J2 J3 JC J6 JK hHeld
      refine hK.out _ _ ⟨M2.out.c 0 rfl, MC.out.c 0 rfl, MC.out.c 1 rfl, MC.out.c 2 rfl⟩ (fun hHeld => ?_)
      clear hK K
      refine wpAnyH_take (i := 4) (v := .tuple #[.int .u64 0, .bool false]) rfl (by kernel_rfl) (by kernel_rfl) (by kernel_rfl) (fun _ _ _ h => h) (Or.inl ⟨by rfl, by rintro w ⟨h1, h2, h3, h4⟩; go_simp⟩) hHeld ?_
      refine wpAnyH_take (i := 5) (v := .int .u64 0) rfl (by kernel_rfl) (by kernel_rfl) (by kernel_rfl) (fun _ _ _ h => h) (Or.inl ⟨by rfl, by rintro w ⟨h1, h2, h3, h4⟩; go_simp⟩) hHeld ?_
      refine wpAnyH_take (i := 6) (v := .bool false) rfl (by kernel_rfl) (by kernel_rfl) (by kernel_rfl) (fun _ _ _ h => h) (Or.inl ⟨by rfl, by rintro w ⟨h1, h2, h3, h4⟩; go_simp⟩) hHeld ?_
      refine wpAnyH_take (i := 7) (v := .int .u64 0) rfl (by kernel_rfl) (by kernel_rfl) (by kernel_rfl) (fun _ _ _ h => h) (Or.inl ⟨by rfl, by rintro w ⟨h1, h2, h3, h4⟩; go_simp⟩) hHeld ?_
      refine wpAnyH_take (i := 8) (v := .bool false) rfl (by kernel_rfl) (by kernel_rfl) (by kernel_rfl) (fun _ _ _ h => h) (Or.inl ⟨by rfl, by rintro w ⟨h1, h2, h3, h4⟩; go_simp⟩) hHeld ?_
      refine wpAnyH_done (by kernel_rfl) ?_ _
      clear hHeld
      gi_wp2
      refine ⟨MK.out.from _, MK.out.walks, ⟨⟨?_, M2.out⟩, M3.out⟩, M6.out⟩
      intro y hy
      rcases List.mem_append.1 hy with h | h
      · exact HI1.out y h
      · simp at h; subst h; exact HR.out
    · simp only [trV] at HUx
      gi_wp2
      refine region_round hmx (by kernel_rfl) (by rintro ⟨_, _, h⟩; exact h) ?_
      refine wpAny_of_held (S := fun w' => w'.cell? ⟨w.heap.size, 0, none⟩ = some (.int .u64 (b : Int)) ∧ w'.cell? ⟨C, 0, none⟩ = some (.int .i64 (frK x)) ∧ w'.cell? ⟨C, 1, none⟩ = some (.int .i64 (frP x)) ∧ w'.cell? ⟨C, 2, none⟩ = some (.int .i64 (frW x))) _ _ _ _ ?_
      have hHeld : W.drew.cell? ⟨w.heap.size, 0, none⟩ = some (.int .u64 (b : Int)) ∧ W.drew.cell? ⟨C, 0, none⟩ = some (.int .i64 (frK x)) ∧ W.drew.cell? ⟨C, 1, none⟩ = some (.int .i64 (frP x)) ∧ W.drew.cell? ⟨C, 2, none⟩ = some (.int .i64 (frW x)) := ⟨HI2.out.c 0 rfl, HC.out.c 0 rfl, HC.out.c 1 rfl, HC.out.c 2 rfl⟩
      refine wpAnyH_take (i := 0) (v := .int .u64 (b : Int)) rfl (by kernel_rfl) (by kernel_rfl) (by kernel_rfl) (fun _ _ _ h => h) (Or.inl ⟨by rfl, by rintro w ⟨h1, h2, h3, h4⟩; go_simp⟩) hHeld ?_
      refine wpAnyH_take (i := 2) (v := .agg #[.int .i64 (frK x), .int .i64 (frP x), .int .i64 (frW x)]) rfl (by kernel_rfl) (by kernel_rfl) (by kernel_rfl) (fun _ _ _ h => h) (Or.inl ⟨by rfl, by rintro w ⟨h1, h2, h3, h4⟩; go_simp⟩) hHeld ?_
      refine wpAnyH_ready (rs := [1]) (by kernel_rfl) (by simp) ?_
      refine AllReadyH.cons rfl (fun K hK => ?_) AllReadyH.nil
      go_simp
      refine (widest_calls _ (HT.out.below HI6.out).1).mono ?_
      rintro o w2 ⟨rfl, hb2⟩
      unfold fmV
      have J2 := Lib.hid (HI2.out.below hb2)
      have J3 := Lib.hid (HI3.out.below hb2)
      have JC := Lib.hid (HC.out.below hb2)
      have J6 := Lib.hid (below_next HI6.out hb2)
      have JK := Lib.hid (HKe.out.trans (keepsO_below hb2))
      clear hb2 HI2 HI3 HC HI6 HKe hHeld
      refine hK.out _ _ ⟨J2.out.c 0 rfl, JC.out.c 0 rfl, JC.out.c 1 rfl, JC.out.c 2 rfl⟩ (fun hHeld => ?_)
      clear hK K
      refine wpAnyH_ready (rs := [3]) (by kernel_rfl) (by simp) ?_
      refine AllReadyH.cons rfl (fun K hK => ?_) AllReadyH.nil
      go_simp
      refine (HUx.out _ (HT.out.below J6.out).2).mono ?_
      rintro o w3 ⟨rfl, hb3⟩
      have M2 := Lib.hid (J2.out.below hb3)
      have M3 := Lib.hid (J3.out.below hb3)
      have MC := Lib.hid (JC.out.below hb3)
      have M6 := Lib.hid (below_next J6.out hb3)
      have MK := Lib.hid (JK.out.trans (keepsO_below hb3))
      clear hb3 J2 J3 JC J6 JK hHeld
      refine hK.out _ _ ⟨M2.out.c 0 rfl, MC.out.c 0 rfl, MC.out.c 1 rfl, MC.out.c 2 rfl⟩ (fun hHeld => ?_)
      clear hK K
      refine wpAnyH_take (i := 4) (v := .tuple #[.int .u64 (c : Int), .bool true]) rfl (by kernel_rfl) (by kernel_rfl) (by kernel_rfl) (fun _ _ _ h => h) (Or.inl ⟨by rfl, by rintro w ⟨h1, h2, h3, h4⟩; go_simp⟩) hHeld ?_
      refine wpAnyH_take (i := 5) (v := .int .u64 (c : Int)) rfl (by kernel_rfl) (by kernel_rfl) (by kernel_rfl) (fun _ _ _ h => h) (Or.inl ⟨by rfl, by rintro w ⟨h1, h2, h3, h4⟩; go_simp⟩) hHeld ?_
      refine wpAnyH_take (i := 6) (v := .bool true) rfl (by kernel_rfl) (by kernel_rfl) (by kernel_rfl) (fun _ _ _ h => h) (Or.inl ⟨by rfl, by rintro w ⟨h1, h2, h3, h4⟩; go_simp⟩) hHeld ?_
      refine wpAnyH_take (i := 7) (v := .int .u64 (c : Int)) rfl (by kernel_rfl) (by kernel_rfl) (by kernel_rfl) (fun _ _ _ h => h) (Or.inl ⟨by rfl, by rintro w ⟨h1, h2, h3, h4⟩; go_simp⟩) hHeld ?_
      refine wpAnyH_take (i := 8) (v := .bool true) rfl (by kernel_rfl) (by kernel_rfl) (by kernel_rfl) (fun _ _ _ h => h) (Or.inl ⟨by rfl, by rintro w ⟨h1, h2, h3, h4⟩; go_simp⟩) hHeld ?_
      refine wpAnyH_done (by kernel_rfl) ?_ _
      clear hHeld
      have d2 := MC.out.c 2 rfl
      have k0 := M3.out.c 0 rfl
      have m0 := M3.out.f 0
      have z5 := M3.out.lt
      gi_wp2
      refine ⟨(MK.out.trans (KeepsOthers.setCell _ _ _)).from _, ⟨rfl, pre, x, rfl, by rw [HR.out]; rfl, HI1.out, M3.out.set1 _⟩, below1 M6.out (by omega) _⟩
  · rintro D ys W hD rfl ⟨⟨⟨i1, i2⟩, i3⟩, i6⟩ hK
    have := i1 2 (by simp)
    rw [show frW 2 = 64 from rfl, narO, if_neg (by decide), if_neg (by decide), if_pos rfl] at this
    cases this
  · rintro D c pre W hD hpre ⟨⟨rfl, ini, x, h1, h2, h3, h4⟩, i6⟩ hK
    have HN := Lib.hid (least_of hpre h1 h2 h3)
    have HD := Lib.hid hK
    have HB := Lib.hid i6
    have c0 := h4.c 0 rfl
    clear h1 h2 h3 hK i6 h4 hpre a1 a2 hB0
    gi_wp2
    refine ⟨by simp, .inl ⟨_, _, rfl, run_takeDeferred HD.out, ?_⟩⟩
    refine ⟨_, results_tmp rfl _ _ _, ?_⟩
    exact ⟨by rw [HN.out]; rfl, HB.out.trans (belowK_b (w := w) (Nat.le_refl _) _ D _ _ (by have := HS0.out; omega) HD.out rfl rfl)⟩
end Go.Proofs.YtgcalhnfoakggaaGreatDoor
