/- The program's own: OfDec. -/
import Derived.Test.YtgcalhnfoakggaaGreatDoorHI
import Derived.Test.YtgcalhnfoakggaaGreatDoorMh3
import Derived.ScopeJumps
import Derived.WalkMore
namespace Go.Proofs.YtgcalhnfoakggaaGreatDoor
open Go.RowKit
open Go.Lib (decDigits nDigits)

/-- What is told of a decimal's value. -/
def voV : Option (Nat × Int) → Value
  | some v => .tuple #[vlV v, .bool true]
  | none => .tuple #[.agg #[.int .u64 0, .int .i64 0], .bool false]
theorem At.set2 {W : World} {B : Nat} {a b : Value} {T : TypeId} (h : At W B #[a, b] T) (x y : Value) : At ((W.setCell ⟨B, 0, none⟩ x).setCell ⟨B, 1, none⟩ y) B #[x, y] T := by
  have h1 := heap_setCell_same W B 0 _ _ x h
  exact heap_setCell_same _ B 1 _ _ y h1
/-- What holds at the jump. -/
def JmpI (w : World) (a : Act) (w' : World) : Prop := (∃ u0 u1 u2 u3 u4 u5 u6 u7 u8 u9 u10 u11 u12 u13 u14 u15 u16 u17 u18 u19 u20 u21 u22 u23 u24 u25 u26 u27 u28 u29 u30 u31 u32 u33 u34 : Value, a = { tmps := #[u0, u1, u2, u3, u4, u5, u6, u7, u8, u9, u10, u11, u12, u13, u14, u15, u16, u17, u18, u19, u20, u21, u22, u23, u24, u25, u26, u27, u28, u29, u30, u31, u32, u33, u34], defers := [] }) ∧ Below w.heap.size w w'

theorem jmp_mk {w w' : World} {u0 u1 u2 u3 u4 u5 u6 u7 u8 u9 u10 u11 u12 u13 u14 u15 u16 u17 u18 u19 u20 u21 u22 u23 u24 u25 u26 u27 u28 u29 u30 u31 u32 u33 u34 : Value} (hb : Below w.heap.size w w') : JmpI w { tmps := #[u0, u1, u2, u3, u4, u5, u6, u7, u8, u9, u10, u11, u12, u13, u14, u15, u16, u17, u18, u19, u20, u21, u22, u23, u24, u25, u26, u27, u28, u29, u30, u31, u32, u33, u34], defers := [] } w' := ⟨⟨_, _, _, _, _, _, _, _, _, _, _, _, _, _, _, _, _, _, _, _, _, _, _, _, _, _, _, _, _, _, _, _, _, _, _, rfl⟩, hb⟩

set_option maxRecDepth 100000 in
set_option maxHeartbeats 400000 in
theorem OfDec_walk (n r : Bool) (C : ByteArray) (e : Int) (VR : Option (Nat × Int)) (PR : Nat × Int → Option (Nat × Nat)) (c : Nat) (w : World) (hT : Tf w)
    (hR : ∀ W, Calls Tryz.prog 34 #[.agg #[.bool n, .string C, .int .i64 e]] W fun o w' => o = .returned (.bool r) ∧ Below W.heap.size W w')
    (hV : ∀ W, Tf W → r = true → Calls Tryz.prog 35 #[.agg #[.bool n, .string C, .int .i64 e]] W fun o w' => o = .returned (voV VR) ∧ Below W.heap.size W w')
    (hP : ∀ W v, r = true → VR = some v → Calls Tryz.prog 36 #[.agg #[.int .i64 11, .int .i64 52, .int .i64 64], vlV v] W fun o w' => o = .returned (plV (PR v)) ∧ Below W.heap.size W w')
    (hB : ∀ W v x, r = true → VR = some v → PR v = some x → Calls Tryz.prog 37 #[.agg #[.int .i64 11, .int .i64 52, .int .i64 64], .int .u64 (if n = true then 1 else 0), .int .u64 (x.1 : Int), .int .u64 (x.2 : Int)] W fun o w' => o = .returned (.int .u64 (c : Int)) ∧ Below W.heap.size W w') :
    Calls Tryz.prog 20 #[.agg #[.bool n, .string C, .int .i64 e]] w fun o w' => o = .returned (trV (if r = true then (VR.bind PR).map fun _ => c else none)) ∧ Below w.heap.size w w' := by
  have HR := Lib.hid hR
  have HV := Lib.hid hV
  have HP := Lib.hid hP
  have HBi := Lib.hid hB
  have HT := Lib.hid hT
  clear hR hV hP hB hT
  have B0 := Lib.hid (below_al (below_al (Below.refl _ w) (.cells #[.bool n, .string C, .int .i64 e] 34)) (.cells #[.int .u64 0, .int .i64 0] 57))
  have D0 := Lib.hid ((At.new w #[.bool n, .string C, .int .i64 e] 34).alloc (.cells #[.int .u64 0, .int .i64 0] 57))
  have V0 := Lib.hid (At.new1 w (.cells #[.bool n, .string C, .int .i64 e] 34) #[.int .u64 0, .int .i64 0] 57)
  cases r
  ·
    go_enter Tryz.func20, Tryz.ntmps20
    go_wp2
    refine wp_scope_jumps 0 (JmpI w) (fun _ _ => 0) (by rfl) ?_ ?_
    · go_wp2_with fail
      refine (HR.out _).mono ?_
      rintro o w1 ⟨rfl, hb1⟩
      have B1 := Lib.hid (below_next B0.out hb1)
      have D1 := Lib.hid (D0.out.below hb1)
      have V1 := Lib.hid (V0.out.below hb1)
      clear hb1 B0 D0 V0
      go_wp2
      refine wp_goto ?_
      exact ⟨rfl, jmp_mk B1.out⟩
    · rintro a w' ⟨⟨u0, u1, u2, u3, u4, u5, u6, u7, u8, u9, u10, u11, u12, u13, u14, u15, u16, u17, u18, u19, u20, u21, u22, u23, u24, u25, u26, u27, u28, u29, u30, u31, u32, u33, u34, rfl⟩, hb⟩
      have HB := Lib.hid hb
      clear hb
      go_wp2
      rw [jump_ret]
      go_ret2
      exact ⟨rfl, HB.out⟩
  rcases VR with _ | v
  ·
    go_enter Tryz.func20, Tryz.ntmps20
    go_wp2
    refine wp_scope_jumps 0 (JmpI w) (fun _ _ => 0) (by rfl) ?_ ?_
    · go_wp2_with fail
      refine (HR.out _).mono ?_
      rintro o w1 ⟨rfl, hb1⟩
      have B1 := Lib.hid (below_next B0.out hb1)
      have D1 := Lib.hid (D0.out.below hb1)
      have V1 := Lib.hid (V0.out.below hb1)
      clear hb1 B0 D0 V0
      have c0 := D1.out.c 0 rfl
      have c1 := D1.out.c 1 rfl
      have c2 := D1.out.c 2 rfl
      go_wp2_with fail
      refine (HV.out _ (HT.out.below B1.out) (by trivial)).mono ?_
      rintro o w2 ⟨rfl, hb2⟩
      have B2 := Lib.hid (below_next B1.out hb2)
      have D2 := Lib.hid (D1.out.below hb2)
      have V2 := Lib.hid (V1.out.below hb2)
      clear hb2 B1 D1 V1 c0 c1 c2
      have v0 := V2.out.c 0 rfl
      have v1 := V2.out.c 1 rfl
      have f0 := V2.out.f 0
      have f1 := V2.out.f 1
      have hz := V2.out.lt
      unfold voV
      go_wp2
      refine wp_goto ?_
      exact ⟨rfl, jmp_mk (below2 B2.out (by omega) _ _)⟩
    · rintro a w' ⟨⟨u0, u1, u2, u3, u4, u5, u6, u7, u8, u9, u10, u11, u12, u13, u14, u15, u16, u17, u18, u19, u20, u21, u22, u23, u24, u25, u26, u27, u28, u29, u30, u31, u32, u33, u34, rfl⟩, hb⟩
      have HB := Lib.hid hb
      clear hb
      go_wp2
      rw [jump_ret]
      go_ret2
      exact ⟨rfl, HB.out⟩
  have HPv := Lib.hid (fun W => HP.out W v (by trivial) rfl)
  have HBv := Lib.hid (fun W x => HBi.out W v x (by trivial) rfl)
  obtain ⟨Q, hQ⟩ : ∃ Q, PR v = Q := ⟨_, rfl⟩
  have hbind : (Option.some v).bind PR = Q := hQ
  rw [hbind]
  rw [hQ] at HPv HBv
  clear HP HBi hbind hQ
  rcases Q with _ | x
  · simp only [plV, vlV] at HPv
    go_enter Tryz.func20, Tryz.ntmps20
    go_wp2
    refine wp_scope_jumps 0 (JmpI w) (fun _ _ => 0) (by rfl) ?_ ?_
    · go_wp2_with fail
      refine (HR.out _).mono ?_
      rintro o w1 ⟨rfl, hb1⟩
      have B1 := Lib.hid (below_next B0.out hb1)
      have D1 := Lib.hid (D0.out.below hb1)
      have V1 := Lib.hid (V0.out.below hb1)
      clear hb1 B0 D0 V0
      have c0 := D1.out.c 0 rfl
      have c1 := D1.out.c 1 rfl
      have c2 := D1.out.c 2 rfl
      go_wp2_with fail
      refine (HV.out _ (HT.out.below B1.out) (by trivial)).mono ?_
      rintro o w2 ⟨rfl, hb2⟩
      have B2 := Lib.hid (below_next B1.out hb2)
      have D2 := Lib.hid (D1.out.below hb2)
      have V2 := Lib.hid (V1.out.below hb2)
      clear hb2 B1 D1 V1 c0 c1 c2
      have v0 := V2.out.c 0 rfl
      have v1 := V2.out.c 1 rfl
      have f0 := V2.out.f 0
      have f1 := V2.out.f 1
      have hz := V2.out.lt
      unfold voV
      unfold vlV
      go_wp2_with fail
      have B3 := Lib.hid (below2 B2.out (show w.heap.size ≤ w.heap.size + 1 by omega) (.int .u64 (v.1 : Int)) (.int .i64 v.2))
      have D3 := Lib.hid ((D2.out.off (C := w.heap.size + 1) (i := 0) (v := .int .u64 (v.1 : Int)) (by omega)).off (C := w.heap.size + 1) (i := 1) (v := .int .i64 v.2) (by omega))
      have V3 := Lib.hid (V2.out.set2 (.int .u64 (v.1 : Int)) (.int .i64 v.2))
      obtain ⟨W3, hW3⟩ : ∃ W3, W3 = (w2.setCell ⟨w.heap.size + 1, 0, none⟩ (.int .u64 (v.1 : Int))).setCell ⟨w.heap.size + 1, 1, none⟩ (.int .i64 v.2) := ⟨_, rfl⟩
      rw [← hW3] at B3 D3 V3 ⊢
      clear hW3 v0 v1 f0 f1 hz B2 D2 V2
      have B3d := Lib.hid B3.out.drew
      have D3d := Lib.hid (show At W3.drew _ _ _ from D3.out)
      have V3d := Lib.hid (show At W3.drew _ _ _ from V3.out)
      clear B3 D3 V3
      go_region_held3 (fun w' => w'.cell? ⟨w.heap.size + 1, 0, none⟩ = some (.int .u64 (v.1 : Int)) ∧ w'.cell? ⟨w.heap.size + 1, 1, none⟩ = some (.int .i64 v.2))
        (first
          | exact ⟨V3d.out.c 0 rfl, V3d.out.c 1 rfl⟩
          | exact ⟨V4.out.c 0 rfl, V4.out.c 1 rfl⟩
          | exact ⟨V5.out.c 0 rfl, V5.out.c 1 rfl⟩)
        ((first
          | (go_at_call 24; refine (widest_calls _ (HT.out.below B3d.out).1.1).mono ?_; rintro o w4 ⟨rfl, hb4⟩; unfold fmV; have V4 := Lib.hid (V3d.out.below hb4); have D4 := Lib.hid (D3d.out.below hb4); have B4 := Lib.hid (below_next B3d.out hb4); clear hb4)
          | (go_at_call 36; refine (HPv.out _).mono ?_; rintro o w5 ⟨rfl, hb5⟩; have V5 := Lib.hid (V4.out.below hb5); have D5 := Lib.hid (D4.out.below hb5); have B5 := Lib.hid (below_next B4.out hb5); clear hb5)))
      all_goals
        go_wp2
        refine wp_goto ?_
        exact ⟨rfl, jmp_mk B5.out⟩
    · rintro a w' ⟨⟨u0, u1, u2, u3, u4, u5, u6, u7, u8, u9, u10, u11, u12, u13, u14, u15, u16, u17, u18, u19, u20, u21, u22, u23, u24, u25, u26, u27, u28, u29, u30, u31, u32, u33, u34, rfl⟩, hb⟩
      have HB := Lib.hid hb
      clear hb
      go_wp2
      rw [jump_ret]
      go_ret2
      exact ⟨rfl, HB.out⟩
  have HBx := Lib.hid (fun W => HBv.out W x rfl)
  clear HBv
  cases n
  all_goals
    simp only [plV, vlV] at HPv
    simp only [Bool.false_eq_true, if_true, if_false] at HBx
    go_enter Tryz.func20, Tryz.ntmps20
    go_wp2
    refine wp_scope_straight ?_
    · go_wp2_with fail
      refine (HR.out _).mono ?_
      rintro o w1 ⟨rfl, hb1⟩
      have B1 := Lib.hid (below_next B0.out hb1)
      have D1 := Lib.hid (D0.out.below hb1)
      have V1 := Lib.hid (V0.out.below hb1)
      clear hb1 B0 D0 V0
      have c0 := D1.out.c 0 rfl
      have c1 := D1.out.c 1 rfl
      have c2 := D1.out.c 2 rfl
      go_wp2_with fail
      refine (HV.out _ (HT.out.below B1.out) (by trivial)).mono ?_
      rintro o w2 ⟨rfl, hb2⟩
      have B2 := Lib.hid (below_next B1.out hb2)
      have D2 := Lib.hid (D1.out.below hb2)
      have V2 := Lib.hid (V1.out.below hb2)
      clear hb2 B1 D1 V1 c0 c1 c2
      have v0 := V2.out.c 0 rfl
      have v1 := V2.out.c 1 rfl
      have f0 := V2.out.f 0
      have f1 := V2.out.f 1
      have hz := V2.out.lt
      unfold voV
      unfold vlV
      go_wp2_with fail
      have B3 := Lib.hid (below2 B2.out (show w.heap.size ≤ w.heap.size + 1 by omega) (.int .u64 (v.1 : Int)) (.int .i64 v.2))
      have D3 := Lib.hid ((D2.out.off (C := w.heap.size + 1) (i := 0) (v := .int .u64 (v.1 : Int)) (by omega)).off (C := w.heap.size + 1) (i := 1) (v := .int .i64 v.2) (by omega))
      have V3 := Lib.hid (V2.out.set2 (.int .u64 (v.1 : Int)) (.int .i64 v.2))
      obtain ⟨W3, hW3⟩ : ∃ W3, W3 = (w2.setCell ⟨w.heap.size + 1, 0, none⟩ (.int .u64 (v.1 : Int))).setCell ⟨w.heap.size + 1, 1, none⟩ (.int .i64 v.2) := ⟨_, rfl⟩
      rw [← hW3] at B3 D3 V3 ⊢
      clear hW3 v0 v1 f0 f1 hz B2 D2 V2
      have B3d := Lib.hid B3.out.drew
      have D3d := Lib.hid (show At W3.drew _ _ _ from D3.out)
      have V3d := Lib.hid (show At W3.drew _ _ _ from V3.out)
      clear B3 D3 V3
      go_region_held3 (fun w' => w'.cell? ⟨w.heap.size + 1, 0, none⟩ = some (.int .u64 (v.1 : Int)) ∧ w'.cell? ⟨w.heap.size + 1, 1, none⟩ = some (.int .i64 v.2))
        (first
          | exact ⟨V3d.out.c 0 rfl, V3d.out.c 1 rfl⟩
          | exact ⟨V4.out.c 0 rfl, V4.out.c 1 rfl⟩
          | exact ⟨V5.out.c 0 rfl, V5.out.c 1 rfl⟩)
        ((first
          | (go_at_call 24; refine (widest_calls _ (HT.out.below B3d.out).1.1).mono ?_; rintro o w4 ⟨rfl, hb4⟩; unfold fmV; have V4 := Lib.hid (V3d.out.below hb4); have D4 := Lib.hid (D3d.out.below hb4); have B4 := Lib.hid (below_next B3d.out hb4); clear hb4)
          | (go_at_call 36; refine (HPv.out _).mono ?_; rintro o w5 ⟨rfl, hb5⟩; have V5 := Lib.hid (V4.out.below hb5); have D5 := Lib.hid (D4.out.below hb5); have B5 := Lib.hid (below_next B4.out hb5); clear hb5)))
      all_goals
        have c0 := D5.out.c 0 rfl
        go_wp2_with fail
        refine (widest_calls _ (HT.out.below B5.out).1.1).mono ?_
        rintro o w6 ⟨rfl, hb6⟩
        have B6 := Lib.hid (below_next B5.out hb6)
        clear hb6
        unfold fmV
        go_wp2_with fail
        refine (HBx.out _).mono ?_
        rintro o w7 ⟨rfl, hb7⟩
        have B7 := Lib.hid (below_next B6.out hb7)
        clear hb7
        go_wp2
        rw [Exit.noGoto_ret]
        go_ret2
        exact ⟨rfl, B7.out⟩
end Go.Proofs.YtgcalhnfoakggaaGreatDoor
