/- The iterator digits. -/
import Derived.Test.YtfmhpeeecejpbaaBt
import Derived.Test.YtfmhpeeecejpbaaBm
namespace Go.Proofs.Ytfmhpeeecejpbaa
open Go.RowKit Go.Shelf

attribute [local go_sem] Oper.semAt_some

/-- A number of t binary digits. -/
abbrev NX (t : Nat) := { x : Nat // x < 2 ^ t }
/-- The blocks of S lie as they lay. -/
def Kpt (S : Nat → Prop) (A B : World) : Prop := A.heap.size ≤ B.heap.size ∧ ∀ k, S k → B.heap[k]? = A.heap[k]?
theorem Kpt.refl (S : Nat → Prop) (A : World) : Kpt S A A := ⟨Nat.le_refl _, fun _ _ => rfl⟩
theorem Kpt.trans {S : Nat → Prop} {A B C : World} (h : Kpt S A B) (k : Kpt S B C) : Kpt S A C := ⟨Nat.le_trans h.1 k.1, fun i hi => (k.2 i hi).trans (h.2 i hi)⟩
theorem Kpt.cell {S : Nat → Prop} {A B : World} (h : Kpt S A B) {p : Addr} (hp : S p.block) : B.cell? p = A.cell? p := World.cell?_of_block (w := A) (h.2 p.block hp)
theorem Kpt.of_grown {S : Nat → Prop} {A B : World} {r : Nat} (h : A.grownBy B (some r)) (hS : ∀ k, S k → k < A.heap.size ∧ k ≠ r) : Kpt S A B :=
  ⟨h.size, fun k hk => h.block k (hS k hk).1 (fun e => (hS k hk).2 (by cases e; rfl))⟩

/-- How many digits a reader holds. -/
def cnt (W : World) (B : Nat) : Nat := match W.cell? ⟨B, 1, none⟩ with | some (.int _ n) => n.toNat | _ => 0
theorem Rdr.cnt {W : World} {B f t H c : Nat} (h : Rdr W B f t H c) : cnt W B = c := by unfold Ytfmhpeeecejpbaa.cnt; rw [h.count]; rfl

def nat (L : List Nat) (i : Nat) : Nat := L[i]?.getD 0
theorem nat_take (L : List Nat) (k : Nat) (h : k < L.length) : L.take (k + 1) = L.take k ++ [nat L k] := by
  rw [List.take_succ_eq_append_getElem h, nat, List.getElem?_eq_getElem h]; rfl

set_option maxHeartbeats 1000000 in
theorem digits_in (n B : Nat) (v : Value) (w : World) (a : Option Addr) (len cap : Nat) (hv : v = .slice a len cap) :
    CallsIn Fence.wide n Try.prog 27 #[.pointer (some ⟨B, 0, none⟩), v] w fun e w' => e = .returned (.func (.func 30) #[] #[.pointer (some ⟨w.heap.size + 1, 0, none⟩), .pointer (some ⟨w.heap.size, 0, none⟩)]) ∧ w' = (w.alloc (.cells #[.pointer (some ⟨B, 0, none⟩)] 49)).alloc (.cells #[v] 35) := by
  subst hv
  refine callsIn_of_wp Try.func27 rfl trivial ?_ rfl
  simp only [Try.ntmps27, List.size_toArray, List.length_cons, List.length_nil, Nat.reduceAdd, Nat.reduceSub, Array.replicate_succ, Array.replicate_zero, List.push_toArray, List.append_toArray, List.nil_append, List.cons_append]
  gi_wp2
  go_ret
  exact ⟨rfl, rfl⟩

set_option maxRecDepth 100000 in
set_option maxHeartbeats 2000000 in
theorem dg1_in (n : Nat) (hn : 1 ≤ n) (l Bn Bp B b off cap f t : Nat) (S : Nat → Prop) (L : List Nat) (hl : L.length ≤ 1000) (hf : f ≤ 8) (ht : 4 ≤ t) (ht8 : t ≤ 8) (hL : ∀ x ∈ L, x < 2 ^ f)
    (hSb : S b) (hSn : S Bn) (hSp : S Bp) (hSB : ¬ S B) (J : List (NX t) → World → Prop)
    (hY : ∀ pre x W, J pre W → pre.length < 3 * L.length → YieldAt Fence.wide (n - 1) Try.prog l #[.int .u8 (x.1 : Int)] W fun e W' => e = .returned (.bool true) ∧ J (pre ++ [x]) W' ∧ Kpt (fun k => S k ∨ k = B) W W')
    (hJ : ∀ pre A A', J pre A → A.grownBy A' (some B) → J pre A')
    (W : World) (hS : ∀ k, S k → k < W.heap.size) (hBs : W.cell? ⟨Bn, 0, none⟩ = some (.slice (some ⟨b, off, none⟩) L.length cap)) (hBp : W.cell? ⟨Bp, 0, none⟩ = some (.pointer (some ⟨B, 0, none⟩)))
    (hc : ∀ j, j < L.length → W.cell? ⟨b, off + j, none⟩ = some (.int .u8 (nat L j : Nat))) (hr : Rdr W B f t 0 0) (h0 : J [] W) :
    CallsIn Fence.wide n Try.prog 30 #[.func (.yield l) #[] #[], .pointer (some ⟨Bn, 0, none⟩), .pointer (some ⟨Bp, 0, none⟩)] W fun e W' => (∃ v, e = .returned v) ∧
      ∃ ys, ys.map (·.1) = (foldR f t L).1 ∧ J ys W' ∧ Rdr W' B f t (foldR f t L).2.1 (foldR f t L).2.2 := by
  have HC := Lib.hid hc
  have HY := Lib.hid hY
  have HJ := Lib.hid hJ
  have HL := Lib.hid hL
  have HS := Lib.hid hS
  have hmx : Try.prog.follows .mixedOrders = true := by kernel_rfl
  clear hc hY hJ hL hS
  refine callsIn_of_wp Try.func30 rfl trivial ?_ rfl
  simp only [Try.ntmps30, List.size_toArray, List.length_cons, List.length_nil, Nat.reduceAdd, Nat.reduceSub, Array.replicate_succ, Array.replicate_zero, List.push_toArray, List.append_toArray, List.nil_append, List.cons_append]
  gi_wp2
  gi_loopw [8] (fun i wr => ∃ (k : Nat) (pre : List (NX t)), k ≤ L.length ∧ i = .int .i64 (k : Int) ∧ pre.map (·.1) = (foldR f t (L.take k)).1 ∧ J pre wr ∧ Rdr wr B f t (foldR f t (L.take k)).2.1 (foldR f t (L.take k)).2.2 ∧ Kpt S W wr)
    (fun i _ => L.length - (intOf i).toNat)
  case atStart => exact ⟨0, [], Nat.zero_le _, rfl, rfl, h0, hr, Kpt.refl _ _⟩
  case round =>
    obtain ⟨k, pre, hk, rfl, hpre, hJs, hR, hnx⟩ := hrel
    have HP := Lib.hid hpre
    have HR := Lib.hid hR
    clear hpre hR
    have hBs2 := (hnx.cell (p := ⟨Bn, 0, none⟩) hSn).trans hBs
    have hBp2 := (hnx.cell (p := ⟨Bp, 0, none⟩) hSp).trans hBp
    by_cases hlt : k < L.length
    · have hcx : wr.cell? ⟨b, off + k, none⟩ = some (.int .u8 (nat L k : Nat)) := (hnx.cell (p := ⟨b, off + k, none⟩) hSb).trans (HC.out k hlt)
      have hfr := HR.out.from_
      have hto := HR.out.to_
      have hct := HR.out.count
      have hxk : nat L k < 2 ^ f := by
        rw [nat, List.getElem?_eq_getElem hlt]; exact HL.out _ (List.getElem_mem hlt)
      have hinv := foldR_inv (f := f) (show 0 < t by omega) (L.take k)
      have hlen := foldR_len ht ht8 hf (L.take k)
      obtain ⟨D, hD⟩ : ∃ D, D = foldR f t (L.take k) := ⟨_, rfl⟩
      rw [← hD] at hinv hlen HP HR
      have hc8 : D.2.2 < 8 := by have := hinv.few; omega
      have HD := Lib.hid hD
      have HI := Lib.hid hinv
      have HXk := Lib.hid hxk
      have HLn := Lib.hid hlen
      clear hD hinv hxk hlen hct
      gi_wp2
      refine wpIn_wide.2 ?_
      go_still_tail 8, hmx
      go_wp2_with fail
      refine (put_calls B f t D.2.1 D.2.2 (nat L k) f wr.drew (show Rdr wr.drew B f t D.2.1 D.2.2 from HR.out) (by omega) hf HXk.out HI.out.held).mono ?_
      rintro e w1 ⟨⟨v, rfl⟩, hr1, hg1⟩
      have hg2 := grown_trans (grown_drew wr (some B)) hg1
      have hJ1 := HJ.out pre _ _ hJs hg2
      have hk1 : Kpt S wr w1 := Kpt.of_grown hg2 (fun k' hk' => ⟨by have h1 := HS.out k' hk'; have h2 := hnx.1; omega, fun e => hSB (by rw [← e]; exact hk')⟩)
      have hn1 := hnx.trans hk1
      have HR1 := Lib.hid hr1
      clear hr1 hg1 hg2 hk1 hBs2 hBp2 hcx hfr hto
      obtain ⟨H1, hH1⟩ : ∃ H1, H1 = D.2.1 * 2 ^ f + nat L k := ⟨_, rfl⟩
      obtain ⟨c1, hc1⟩ : ∃ c1, c1 = D.2.2 + f := ⟨_, rfl⟩
      have hH1l : H1 < 2 ^ c1 := by rw [hH1, hc1]; exact put_lt HI.out.held HXk.out
      have hc16 : c1 ≤ 15 := by omega
      rw [← hH1, ← hc1] at HR1
      have HH1 := Lib.hid hH1
      have HC1 := Lib.hid hc1
      have HHl := Lib.hid hH1l
      clear hH1 hc1 hH1l
      go_wp2
      try gi_wp2
      gi_loopw [30] (fun _ wq => ∃ (j : Nat) (pr : List (NX t)), j ≤ c1 / t ∧ pr.map (·.1) = D.1 ++ outs t j H1 c1 ∧ J pr wq ∧ Rdr wq B f t (H1 % 2 ^ (c1 - j * t)) (c1 - j * t) ∧ Kpt S W wq)
        (fun _ wq => cnt wq B)
      case atStart => exact ⟨0, pre, Nat.zero_le _, by rw [HP.out]; simp [outs], hJ1, by rw [Nat.zero_mul, Nat.sub_zero, Nat.mod_eq_of_lt HHl.out]; exact HR1.out, hn1⟩
      case round =>
        obtain ⟨j, pr, hj, hpr, hJq, hRq, hkq⟩ := hrel
        have hjt : j * t ≤ c1 := Nat.le_trans (Nat.mul_le_mul_right t hj) (Nat.div_mul_le_self c1 t)
        obtain ⟨cj, hcj⟩ : ∃ cj, cj = c1 - j * t := ⟨_, rfl⟩
        obtain ⟨Hj, hHj⟩ : ∃ Hj, Hj = H1 % 2 ^ cj := ⟨_, rfl⟩
        rw [← hcj, ← hHj] at hRq
        have hHjl : Hj < 2 ^ cj := by rw [hHj]; exact Nat.mod_lt _ (Nat.two_pow_pos _)
        have hc15 : cj ≤ 15 := by omega
        have hBp3 := (hkq.cell (p := ⟨Bp, 0, none⟩) hSp).trans hBp
        have hto := hRq.to_
        have hct := hRq.count
        have hcn := hRq.cnt
        have HPr := Lib.hid hpr
        have HRq := Lib.hid hRq
        have HCj := Lib.hid hcj
        have HHj := Lib.hid hHj
        have HHjl := Lib.hid hHjl
        have HJt := Lib.hid hjt
        have HCn := Lib.hid hcn
        clear hpr hRq hcj hHj hHjl hjt hcn
        by_cases hjl : j < c1 / t
        · have hj1 : (j + 1) * t ≤ c1 := Nat.le_trans (Nat.mul_le_mul_right t hjl) (Nat.div_mul_le_self c1 t)
          have hta := take_at (H := H1) hj1
          rw [← HCj.out, ← HHj.out] at hta
          obtain ⟨hta1, hta2, htc, hta4⟩ := hta
          have T := fun Wx (hx : Rdr Wx B f t Hj cj) => take_calls B f t Hj cj t Wx hx (by omega) htc ht8 HHjl.out
          rw [← hta1] at hta4
          obtain ⟨xv, hxv⟩ : ∃ xv, xv = Hj / 2 ^ (cj - t) := ⟨_, rfl⟩
          obtain ⟨H2, hH2⟩ : ∃ H2, H2 = Hj % 2 ^ (cj - t) := ⟨_, rfl⟩
          obtain ⟨c2, hc2⟩ : ∃ c2, c2 = cj - t := ⟨_, rfl⟩
          simp only [← hxv, ← hH2] at T hta4 hta2
          simp only [← hc2] at T
          have hc2l : c2 + t = cj := by omega
          have HC2l := Lib.hid hc2l
          have e1 : c2 = c1 - (j + 1) * t := by rw [hc2, hta1]
          have e2 : H2 = H1 % 2 ^ (c1 - (j + 1) * t) := hta2
          have e3 : pr.map (·.1) ++ [xv] = D.1 ++ outs t (j + 1) H1 c1 := by
            rw [HPr.out, outs_succ, hxv, HHj.out, hta1, HCj.out, List.append_assoc]
          have hpl : pr.length < 3 * L.length := by
            have h1 := congrArg List.length HPr.out
            rw [List.length_map, List.length_append, outs_length] at h1
            have h2 := HLn.out
            rw [List.length_take, Nat.min_eq_left (by omega)] at h2
            have h3 : c1 / t < 4 := by rw [Nat.div_lt_iff_lt_mul (by omega)]; omega
            omega
          have E1 := Lib.hid e1
          have E2 := Lib.hid e2
          have E3 := Lib.hid e3
          have HT := Lib.hid T
          have HXl := Lib.hid hta4
          have HPl := Lib.hid hpl
          clear e1 e2 e3 T hta4 hta1 hta2 hxv hH2 hc2 hc2l hj1 hpl
          gi_wp2
          refine wpIn_wide.2 ?_
          go_quiet (fail)
          gi_wp2
          gi_region_with_o (first | (refine ⟨trivial, ?_⟩; gi_at_call 32; refine (callsIn_wide.2 (HT.out (wr.drewN (nq + 1)) (show Rdr (wr.drewN (nq + 1)) B f t Hj cj from HRq.out))).mono ?_; rintro e w3 ⟨rfl, hr3, hg3⟩; have hJ3 := HJ.out pr wr w3 hJq (grown_trans (grown_drewN wr (nq + 1) (some B)) hg3); obtain ⟨fn, tmps, assign, body, hy, hR⟩ := HY.out pr ⟨xv, HXl.out⟩ w3 hJ3 HPl.out) | (refine hR.mono ?_; rintro e w4 ⟨rfl, hJ4, hk4⟩))
          all_goals
            have HR4 := Lib.hid ((hr3.same (hk4.2 B (.inr rfl)) : Rdr w4 B f t H2 c2))
            have hg4 := grown_trans (grown_drewN wr (nq + 1) (some B)) hg3
            have hk5 : Kpt S wr w3 := Kpt.of_grown hg4 (fun k' hk' => ⟨by have h1 := HS.out k' hk'; have h2 := hkq.1; omega, fun e => hSB (by rw [← e]; exact hk')⟩)
            have hk6 : Kpt S w3 w4 := ⟨hk4.1, fun k' hk' => hk4.2 k' (.inl hk')⟩
            have hk7 := (hkq.trans hk5).trans hk6
            clear hr3 hg3 hJ3 hy hR hk4 hg4 hk5 hk6
            gi_wp2
            go_roundw
            case rel => ((repeat apply Exists.intro); exact ⟨⟨j + 1, pr ++ [⟨xv, HXl.out⟩], hjl, by rw [List.map_append]; exact E3.out, hJ4, by have := HR4.out; rw [E2.out, E1.out] at this; exact this, hk7⟩, rfl⟩)
            case measure =>
              rw [HR4.out.cnt, HCn.out]
              have := HC2l.out
              omega
        · obtain rfl : j = c1 / t := by omega
          have hlo : ¬ t ≤ cj := by
            have h1 := Nat.div_add_mod c1 t
            have h2 := Nat.mod_lt c1 (show 0 < t by omega)
            have h3 := HCj.out
            have h4 : t * (c1 / t) = c1 / t * t := Nat.mul_comm _ _
            omega
          gi_wp2
          refine wpIn_wide.2 ?_
          go_quiet (fail)
          gi_wp2
          have hcm : cj = c1 % t := by
            have h1 := Nat.div_add_mod c1 t
            have h3 := HCj.out
            have h4 : t * (c1 / t) = c1 / t * t := Nat.mul_comm _ _
            omega
          have es : foldR f t (L.take (k + 1)) = (D.1 ++ outs t (c1 / t) H1 c1, H1 % 2 ^ (c1 % t), c1 % t) := by
            rw [nat_take L k hlt, foldR_snoc, ← HD.out, stepR, ← HH1.out, ← HC1.out]
          refine ⟨⟨k + 1, pr, by omega, by go_num, by rw [es]; exact HPr.out, HJ.out pr wr _ hJq (grown_drewN wr nq (some B)), ?_, hkq.trans ⟨Nat.le_refl _, fun _ _ => rfl⟩⟩, by simp [intOf]; omega⟩
          rw [es, ← hcm, ← HHj.out]
          exact HRq.out
    · obtain rfl : k = L.length := by omega
      gi_wp2
      go_end0
      exact ⟨⟨_, rfl⟩, pre, by rw [HP.out, List.take_length], hJs, by have := HR.out; rwa [List.take_length] at this⟩
end Go.Proofs.Ytfmhpeeecejpbaa
