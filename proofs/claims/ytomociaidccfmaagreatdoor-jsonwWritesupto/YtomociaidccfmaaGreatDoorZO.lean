/- The document's own: fits and Check, in the program's words. -/
import Derived.Test.YtomociaidccfmaaGreatDoorNh
import Derived.Test.YtomociaidccfmaaGreatDoorVQ
namespace Go.Proofs.YtomociaidccfmaaGreatDoor
open Go.RowKit

theorem leaf_nil {h : Hd} {k : Fo} (hk : h.kind = 1 ∨ h.kind = 2 ∨ h.kind = 3 ∨ h.kind = 4 ∨ h.kind = 5 ∨ h.kind = 6 ∨ h.kind = 10 ∨ h.kind = 11) (e : okN h k = true) : k = .nil := by
  by_cases h0 : k.len = 0
  · exact len_nil h0
  · exfalso
    have hq : ((k.len : Int) == 0) = false := by simp [h0]
    rcases hk with hk | hk | hk | hk | hk | hk | hk | hk <;> rw [okN, hk] at e <;> simp [o_isNull, j_isNull, o_isBool, j_isBool, o_isNum, j_isNum, o_isFloat, j_isFloat, o_isText, o_isBytes, j_isBytes, o_isSimple, j_isSimple, o_isExt, j_isExt, hq] at e
theorem widO_w {u : Nat} {w : Int} (h : (widO u w).isSome = true) : w = 16 ∨ w = 32 ∨ w = 64 := by
  rw [widO] at h
  split at h
  · rename_i e; exact .inl e
  · split at h
    · rename_i e; exact .inr (.inl e)
    · split at h
      · rename_i e; exact .inr (.inr e)
      · cases h
theorem rFits_l1 (b neg : Bool) (dig : ByteArray) (exp : Int) (u : Nat) (wd : Int) (s : ByteArray) (n : Int) (A : Option Addr) (c : Nat) (w : World) : Calls Tryz.prog 21 #[.agg ((⟨1, b, neg, dig, exp, u, wd, s⟩ : Hd).cells (.slice A 0 c)), .int .i64 n] w (BolP (fitAll (frmOf n) (.cons ⟨1, b, neg, dig, exp, u, wd, s⟩ .nil .nil)) w) := by
  have hn : n = 1 ∨ n = 2 ∨ n = 3 ∨ n = 4 ∨ n < 1 ∨ 4 < n := by omega
  rcases hn with rfl | rfl | rfl | rfl | hn | hn
  · have e : fitAll (frmOf 1) (.cons ⟨1, b, neg, dig, exp, u, wd, s⟩ .nil .nil) = true := by simp [fitAll, fitN, frmOf, hasB]
    rw [e]
    exact rFits_1_1 b neg dig exp u wd s A c w
  · have e : fitAll (frmOf 2) (.cons ⟨1, b, neg, dig, exp, u, wd, s⟩ .nil .nil) = true := by simp [fitAll, fitN, frmOf, hasB]
    rw [e]
    exact rFits_1_2 b neg dig exp u wd s A c w
  · have e : fitAll (frmOf 3) (.cons ⟨1, b, neg, dig, exp, u, wd, s⟩ .nil .nil) = true := by simp [fitAll, fitN, frmOf, hasB]
    rw [e]
    exact rFits_1_3 b neg dig exp u wd s A c w
  · have e : fitAll (frmOf 4) (.cons ⟨1, b, neg, dig, exp, u, wd, s⟩ .nil .nil) = true := by simp [fitAll, fitN, frmOf, hasB]
    rw [e]
    exact rFits_1_4 b neg dig exp u wd s A c w
  · have e : fitAll (frmOf n) (.cons ⟨1, b, neg, dig, exp, u, wd, s⟩ .nil .nil) = false := by rw [frm_no (.inl hn), fitAll, fitN, hasB_0]; rfl
    rw [e]
    exact rFits_1_lo b neg dig exp u wd s n A c w (by omega)
  · have e : fitAll (frmOf n) (.cons ⟨1, b, neg, dig, exp, u, wd, s⟩ .nil .nil) = false := by rw [frm_no (.inr hn), fitAll, fitN, hasB_0]; rfl
    rw [e]
    exact rFits_1_hi b neg dig exp u wd s n A c w (by omega) (by omega)
theorem rFits_l2 (b neg : Bool) (dig : ByteArray) (exp : Int) (u : Nat) (wd : Int) (s : ByteArray) (n : Int) (A : Option Addr) (c : Nat) (w : World) : Calls Tryz.prog 21 #[.agg ((⟨2, b, neg, dig, exp, u, wd, s⟩ : Hd).cells (.slice A 0 c)), .int .i64 n] w (BolP (fitAll (frmOf n) (.cons ⟨2, b, neg, dig, exp, u, wd, s⟩ .nil .nil)) w) := by
  have hn : n = 1 ∨ n = 2 ∨ n = 3 ∨ n = 4 ∨ n < 1 ∨ 4 < n := by omega
  rcases hn with rfl | rfl | rfl | rfl | hn | hn
  · have e : fitAll (frmOf 1) (.cons ⟨2, b, neg, dig, exp, u, wd, s⟩ .nil .nil) = true := by simp [fitAll, fitN, frmOf, hasB]
    rw [e]
    exact rFits_2_1 b neg dig exp u wd s A c w
  · have e : fitAll (frmOf 2) (.cons ⟨2, b, neg, dig, exp, u, wd, s⟩ .nil .nil) = true := by simp [fitAll, fitN, frmOf, hasB]
    rw [e]
    exact rFits_2_2 b neg dig exp u wd s A c w
  · have e : fitAll (frmOf 3) (.cons ⟨2, b, neg, dig, exp, u, wd, s⟩ .nil .nil) = true := by simp [fitAll, fitN, frmOf, hasB]
    rw [e]
    exact rFits_2_3 b neg dig exp u wd s A c w
  · have e : fitAll (frmOf 4) (.cons ⟨2, b, neg, dig, exp, u, wd, s⟩ .nil .nil) = true := by simp [fitAll, fitN, frmOf, hasB]
    rw [e]
    exact rFits_2_4 b neg dig exp u wd s A c w
  · have e : fitAll (frmOf n) (.cons ⟨2, b, neg, dig, exp, u, wd, s⟩ .nil .nil) = false := by rw [frm_no (.inl hn), fitAll, fitN, hasB_0]; rfl
    rw [e]
    exact rFits_2_lo b neg dig exp u wd s n A c w (by omega)
  · have e : fitAll (frmOf n) (.cons ⟨2, b, neg, dig, exp, u, wd, s⟩ .nil .nil) = false := by rw [frm_no (.inr hn), fitAll, fitN, hasB_0]; rfl
    rw [e]
    exact rFits_2_hi b neg dig exp u wd s n A c w (by omega) (by omega)
theorem rFits_l5 (b neg : Bool) (dig : ByteArray) (exp : Int) (u : Nat) (wd : Int) (s : ByteArray) (n : Int) (A : Option Addr) (c : Nat) (w : World) : Calls Tryz.prog 21 #[.agg ((⟨5, b, neg, dig, exp, u, wd, s⟩ : Hd).cells (.slice A 0 c)), .int .i64 n] w (BolP (fitAll (frmOf n) (.cons ⟨5, b, neg, dig, exp, u, wd, s⟩ .nil .nil)) w) := by
  have hn : n = 1 ∨ n = 2 ∨ n = 3 ∨ n = 4 ∨ n < 1 ∨ 4 < n := by omega
  rcases hn with rfl | rfl | rfl | rfl | hn | hn
  · have e : fitAll (frmOf 1) (.cons ⟨5, b, neg, dig, exp, u, wd, s⟩ .nil .nil) = true := by simp [fitAll, fitN, frmOf, hasB]
    rw [e]
    exact rFits_5_1 b neg dig exp u wd s A c w
  · have e : fitAll (frmOf 2) (.cons ⟨5, b, neg, dig, exp, u, wd, s⟩ .nil .nil) = true := by simp [fitAll, fitN, frmOf, hasB]
    rw [e]
    exact rFits_5_2 b neg dig exp u wd s A c w
  · have e : fitAll (frmOf 3) (.cons ⟨5, b, neg, dig, exp, u, wd, s⟩ .nil .nil) = true := by simp [fitAll, fitN, frmOf, hasB]
    rw [e]
    exact rFits_5_3 b neg dig exp u wd s A c w
  · have e : fitAll (frmOf 4) (.cons ⟨5, b, neg, dig, exp, u, wd, s⟩ .nil .nil) = true := by simp [fitAll, fitN, frmOf, hasB]
    rw [e]
    exact rFits_5_4 b neg dig exp u wd s A c w
  · have e : fitAll (frmOf n) (.cons ⟨5, b, neg, dig, exp, u, wd, s⟩ .nil .nil) = false := by rw [frm_no (.inl hn), fitAll, fitN, hasB_0]; rfl
    rw [e]
    exact rFits_5_lo b neg dig exp u wd s n A c w (by omega)
  · have e : fitAll (frmOf n) (.cons ⟨5, b, neg, dig, exp, u, wd, s⟩ .nil .nil) = false := by rw [frm_no (.inr hn), fitAll, fitN, hasB_0]; rfl
    rw [e]
    exact rFits_5_hi b neg dig exp u wd s n A c w (by omega) (by omega)
theorem rFits_l6 (b neg : Bool) (dig : ByteArray) (exp : Int) (u : Nat) (wd : Int) (s : ByteArray) (n : Int) (A : Option Addr) (c : Nat) (w : World) : Calls Tryz.prog 21 #[.agg ((⟨6, b, neg, dig, exp, u, wd, s⟩ : Hd).cells (.slice A 0 c)), .int .i64 n] w (BolP (fitAll (frmOf n) (.cons ⟨6, b, neg, dig, exp, u, wd, s⟩ .nil .nil)) w) := by
  have hn : n = 1 ∨ n = 2 ∨ n = 3 ∨ n = 4 ∨ n < 1 ∨ 4 < n := by omega
  rcases hn with rfl | rfl | rfl | rfl | hn | hn
  · have e : fitAll (frmOf 1) (.cons ⟨6, b, neg, dig, exp, u, wd, s⟩ .nil .nil) = false := by simp [fitAll, fitN, frmOf, hasB]
    rw [e]
    exact rFits_6_1 b neg dig exp u wd s A c w
  · have e : fitAll (frmOf 2) (.cons ⟨6, b, neg, dig, exp, u, wd, s⟩ .nil .nil) = true := by simp [fitAll, fitN, frmOf, hasB]
    rw [e]
    exact rFits_6_2 b neg dig exp u wd s A c w
  · have e : fitAll (frmOf 3) (.cons ⟨6, b, neg, dig, exp, u, wd, s⟩ .nil .nil) = true := by simp [fitAll, fitN, frmOf, hasB]
    rw [e]
    exact rFits_6_3 b neg dig exp u wd s A c w
  · have e : fitAll (frmOf 4) (.cons ⟨6, b, neg, dig, exp, u, wd, s⟩ .nil .nil) = true := by simp [fitAll, fitN, frmOf, hasB]
    rw [e]
    exact rFits_6_4 b neg dig exp u wd s A c w
  · have e : fitAll (frmOf n) (.cons ⟨6, b, neg, dig, exp, u, wd, s⟩ .nil .nil) = false := by rw [frm_no (.inl hn), fitAll, fitN, hasB_0]; rfl
    rw [e]
    exact rFits_6_lo b neg dig exp u wd s n A c w (by omega)
  · have e : fitAll (frmOf n) (.cons ⟨6, b, neg, dig, exp, u, wd, s⟩ .nil .nil) = false := by rw [frm_no (.inr hn), fitAll, fitN, hasB_0]; rfl
    rw [e]
    exact rFits_6_hi b neg dig exp u wd s n A c w (by omega) (by omega)
theorem rFits_l10 (b neg : Bool) (dig : ByteArray) (exp : Int) (u : Nat) (wd : Int) (s : ByteArray) (n : Int) (A : Option Addr) (c : Nat) (w : World) : Calls Tryz.prog 21 #[.agg ((⟨10, b, neg, dig, exp, u, wd, s⟩ : Hd).cells (.slice A 0 c)), .int .i64 n] w (BolP (fitAll (frmOf n) (.cons ⟨10, b, neg, dig, exp, u, wd, s⟩ .nil .nil)) w) := by
  have hn : n = 1 ∨ n = 2 ∨ n = 3 ∨ n = 4 ∨ n < 1 ∨ 4 < n := by omega
  rcases hn with rfl | rfl | rfl | rfl | hn | hn
  · have e : fitAll (frmOf 1) (.cons ⟨10, b, neg, dig, exp, u, wd, s⟩ .nil .nil) = false := by simp [fitAll, fitN, frmOf, hasB]
    rw [e]
    exact rFits_10_1 b neg dig exp u wd s A c w
  · have e : fitAll (frmOf 2) (.cons ⟨10, b, neg, dig, exp, u, wd, s⟩ .nil .nil) = true := by simp [fitAll, fitN, frmOf, hasB]
    rw [e]
    exact rFits_10_2 b neg dig exp u wd s A c w
  · have e : fitAll (frmOf 3) (.cons ⟨10, b, neg, dig, exp, u, wd, s⟩ .nil .nil) = true := by simp [fitAll, fitN, frmOf, hasB]
    rw [e]
    exact rFits_10_3 b neg dig exp u wd s A c w
  · have e : fitAll (frmOf 4) (.cons ⟨10, b, neg, dig, exp, u, wd, s⟩ .nil .nil) = false := by simp [fitAll, fitN, frmOf, hasB]
    rw [e]
    exact rFits_10_4 b neg dig exp u wd s A c w
  · have e : fitAll (frmOf n) (.cons ⟨10, b, neg, dig, exp, u, wd, s⟩ .nil .nil) = false := by rw [frm_no (.inl hn), fitAll, fitN, hasB_0]; rfl
    rw [e]
    exact rFits_10_lo b neg dig exp u wd s n A c w (by omega)
  · have e : fitAll (frmOf n) (.cons ⟨10, b, neg, dig, exp, u, wd, s⟩ .nil .nil) = false := by rw [frm_no (.inr hn), fitAll, fitN, hasB_0]; rfl
    rw [e]
    exact rFits_10_hi b neg dig exp u wd s n A c w (by omega) (by omega)
theorem rFits_l11 (b neg : Bool) (dig : ByteArray) (exp : Int) (u : Nat) (wd : Int) (s : ByteArray) (n : Int) (A : Option Addr) (c : Nat) (w : World) : Calls Tryz.prog 21 #[.agg ((⟨11, b, neg, dig, exp, u, wd, s⟩ : Hd).cells (.slice A 0 c)), .int .i64 n] w (BolP (fitAll (frmOf n) (.cons ⟨11, b, neg, dig, exp, u, wd, s⟩ .nil .nil)) w) := by
  have hn : n = 1 ∨ n = 2 ∨ n = 3 ∨ n = 4 ∨ n < 1 ∨ 4 < n := by omega
  rcases hn with rfl | rfl | rfl | rfl | hn | hn
  · have e : fitAll (frmOf 1) (.cons ⟨11, b, neg, dig, exp, u, wd, s⟩ .nil .nil) = false := by simp [fitAll, fitN, frmOf, hasB]
    rw [e]
    exact rFits_11_1 b neg dig exp u wd s A c w
  · have e : fitAll (frmOf 2) (.cons ⟨11, b, neg, dig, exp, u, wd, s⟩ .nil .nil) = false := by simp [fitAll, fitN, frmOf, hasB]
    rw [e]
    exact rFits_11_2 b neg dig exp u wd s A c w
  · have e : fitAll (frmOf 3) (.cons ⟨11, b, neg, dig, exp, u, wd, s⟩ .nil .nil) = false := by simp [fitAll, fitN, frmOf, hasB]
    rw [e]
    exact rFits_11_3 b neg dig exp u wd s A c w
  · have e : fitAll (frmOf 4) (.cons ⟨11, b, neg, dig, exp, u, wd, s⟩ .nil .nil) = true := by simp [fitAll, fitN, frmOf, hasB]
    rw [e]
    exact rFits_11_4 b neg dig exp u wd s A c w
  · have e : fitAll (frmOf n) (.cons ⟨11, b, neg, dig, exp, u, wd, s⟩ .nil .nil) = false := by rw [frm_no (.inl hn), fitAll, fitN, hasB_0]; rfl
    rw [e]
    exact rFits_11_lo b neg dig exp u wd s n A c w (by omega)
  · have e : fitAll (frmOf n) (.cons ⟨11, b, neg, dig, exp, u, wd, s⟩ .nil .nil) = false := by rw [frm_no (.inr hn), fitAll, fitN, hasB_0]; rfl
    rw [e]
    exact rFits_11_hi b neg dig exp u wd s n A c w (by omega) (by omega)
theorem rFits_l3 (b neg : Bool) (dig : ByteArray) (exp : Int) (u : Nat) (wd : Int) (s : ByteArray) (n : Int) (A : Option Addr) (c : Nat) (w : World) : Calls Tryz.prog 21 #[.agg ((⟨3, b, neg, dig, exp, u, wd, s⟩ : Hd).cells (.slice A 0 c)), .int .i64 n] w (BolP (fitAll (frmOf n) (.cons ⟨3, b, neg, dig, exp, u, wd, s⟩ .nil .nil)) w) := by
  have hn : n = 1 ∨ n = 2 ∨ n = 3 ∨ n = 4 ∨ n < 1 ∨ 4 < n := by omega
  rcases hn with rfl | rfl | rfl | rfl | hn | hn
  · have e : fitAll (frmOf 1) (.cons ⟨3, b, neg, dig, exp, u, wd, s⟩ .nil .nil) = true := by simp [fitAll, fitN, frmOf, hasB, fitNum]
    rw [e]
    exact rFits_3_1 b neg dig exp u wd s A c w _ (fun W => rToInt_p neg dig exp W)
  · have e : fitAll (frmOf 2) (.cons ⟨3, b, neg, dig, exp, u, wd, s⟩ .nil .nil) = (toI neg dig.data.toList exp).isSome := by simp [fitAll, fitN, frmOf, hasB, fitNum, toI_lt]
    rw [e]
    exact rFits_3_2 b neg dig exp u wd s A c w _ (fun W => rToInt_p neg dig exp W)
  · have e : fitAll (frmOf 3) (.cons ⟨3, b, neg, dig, exp, u, wd, s⟩ .nil .nil) = (toI neg dig.data.toList exp).isSome := by simp [fitAll, fitN, frmOf, hasB, fitNum, toI_lt]
    rw [e]
    exact rFits_3_3 b neg dig exp u wd s A c w _ (fun W => rToInt_p neg dig exp W)
  · have e : fitAll (frmOf 4) (.cons ⟨3, b, neg, dig, exp, u, wd, s⟩ .nil .nil) = ((toI neg dig.data.toList exp).isSome && (!tN (toI neg dig.data.toList exp) || decide (tK (toI neg dig.data.toList exp) ≤ 9223372036854775808))) := by simp [fitAll, fitN, frmOf, hasB, fitNum]
    rw [e]
    exact rFits_3_4 b neg dig exp u wd s A c w _ (fun W => rToInt_p neg dig exp W)
  · have e : fitAll (frmOf n) (.cons ⟨3, b, neg, dig, exp, u, wd, s⟩ .nil .nil) = false := by rw [frm_no (.inl hn), fitAll, fitN, hasB_0]; rfl
    rw [e]
    exact rFits_3_lo b neg dig exp u wd s n A c w (by omega) _ (fun W => rToInt_p neg dig exp W)
  · have e : fitAll (frmOf n) (.cons ⟨3, b, neg, dig, exp, u, wd, s⟩ .nil .nil) = false := by rw [frm_no (.inr hn), fitAll, fitN, hasB_0]; rfl
    rw [e]
    exact rFits_3_hi b neg dig exp u wd s n A c w (by omega) (by omega) _ (fun W => rToInt_p neg dig exp W)
theorem rFits_l4 (b neg : Bool) (dig : ByteArray) (exp : Int) (u : Nat) (wd : Int) (s : ByteArray) (n : Int) (A : Option Addr) (c : Nat) (w : World) (hw : wd = 16 ∨ wd = 32 ∨ wd = 64) (hlt : (widO u wd).getD 0 < 18446744073709551616) : Calls Tryz.prog 21 #[.agg ((⟨4, b, neg, dig, exp, u, wd, s⟩ : Hd).cells (.slice A 0 c)), .int .i64 n] w (BolP (fitAll (frmOf n) (.cons ⟨4, b, neg, dig, exp, u, wd, s⟩ .nil .nil)) w) := by
  have hn : n = 1 ∨ n = 2 ∨ n = 3 ∨ n = 4 ∨ n < 1 ∨ 4 < n := by omega
  rcases hn with rfl | rfl | rfl | rfl | hn | hn
  · have e : fitAll (frmOf 1) (.cons ⟨4, b, neg, dig, exp, u, wd, s⟩ .nil .nil) = false := by simp [fitAll, fitN, frmOf, hasB]
    rw [e]
    exact rFits_4_1 b neg dig exp u wd s A c w _ (fun W => rWiden_calls u wd W)
  · have e : fitAll (frmOf 2) (.cons ⟨4, b, neg, dig, exp, u, wd, s⟩ .nil .nil) = true := by rcases hw with rfl | rfl | rfl <;> simp [fitAll, fitN, frmOf, hasB, fitFl]
    rw [e]
    exact rFits_4_2 b neg dig exp u wd s A c w _ (fun W => rWiden_calls u wd W)
  · have e : fitAll (frmOf 3) (.cons ⟨4, b, neg, dig, exp, u, wd, s⟩ .nil .nil) = (leastW ((widO u wd).getD 0) == wd) := by simp [fitAll, fitN, frmOf, hasB, fitFl]
    rw [e]
    exact rFits_4_3 b neg dig exp u wd s A c w _ (fun W => rWiden_calls u wd W) _ (fun W => Qn.rLeast_calls _ W hlt)
  · have e : fitAll (frmOf 4) (.cons ⟨4, b, neg, dig, exp, u, wd, s⟩ .nil .nil) = (decide (¬ wd = 16)) := by rcases hw with rfl | rfl | rfl <;> simp [fitAll, fitN, frmOf, hasB, fitFl]
    rw [e]
    exact rFits_4_4 b neg dig exp u wd s A c w _ (fun W => rWiden_calls u wd W)
  · have e : fitAll (frmOf n) (.cons ⟨4, b, neg, dig, exp, u, wd, s⟩ .nil .nil) = false := by rw [frm_no (.inl hn), fitAll, fitN, hasB_0]; rfl
    rw [e]
    exact rFits_4_lo b neg dig exp u wd s n A c w (by omega) _ (fun W => rWiden_calls u wd W)
  · have e : fitAll (frmOf n) (.cons ⟨4, b, neg, dig, exp, u, wd, s⟩ .nil .nil) = false := by rw [frm_no (.inr hn), fitAll, fitN, hasB_0]; rfl
    rw [e]
    exact rFits_4_hi b neg dig exp u wd s n A c w (by omega) (by omega) _ (fun W => rWiden_calls u wd W)
set_option maxHeartbeats 1000000 in
theorem rFits_any (n : Int) (N : Nat) : ∀ (k : Fo) (h : Hd) (v : Value) (w : World), k.cnt < N → Kd An w v k → h.u < 18446744073709551616 → AllG Gl (.cons h k .nil) → okAll okN (.cons h k .nil) = true →
    Calls Tryz.prog 21 #[.agg (h.cells v), .int .i64 n] w (BolP (fitAll (frmOf n) (.cons h k .nil)) w) := by
  induction N with
  | zero => intro k h v w hN; omega
  | succ N ih =>
    intro k h v w hN hk hu hG hok
    have hok' := hok
    rw [okAll, Bool.and_eq_true, Bool.and_eq_true, Bool.and_eq_true, decide_eq_true_eq] at hok
    obtain ⟨⟨⟨hkd, ho⟩, hck⟩, _⟩ := hok
    have hI : ∀ (j : Nat) (h' : Hd) (k' r : Fo) (v' : Value) (W : World), k.drop j = .cons h' k' r → Below w.heap.size w W → Kd An w v' k' → h'.u < 18446744073709551616 → Calls Tryz.prog 21 #[.agg (h'.cells v'), .int .i64 n] W (BolP (fitAll (frmOf n) (.cons h' k' .nil)) W) := fun j h' k' r v' W hd hW hk' hu' =>
      ih k' h' v' W (by have := drop_cnt j k; rw [hd, Fo.cnt] at this; omega) (hk'.below hW) hu' (allG_cons (allG_at hG.2.1 hd).1 (allG_at hG.2.1 hd).2 trivial) (okAll_drop j hck hd)
    have hc : h.kind = 1 ∨ h.kind = 2 ∨ h.kind = 3 ∨ h.kind = 4 ∨ h.kind = 5 ∨ h.kind = 6 ∨ h.kind = 7 ∨ h.kind = 8 ∨ h.kind = 9 ∨ h.kind = 10 ∨ h.kind = 11 := by omega
    rcases hc with hc | hc | hc | hc | hc | hc | hc | hc | hc | hc | hc
    · obtain rfl := leaf_nil (.inl hc) ho
      obtain ⟨A, c, rfl, _, _, _⟩ := hk.form
      rcases h with ⟨kd, b, neg, dig, exp, u, wd, s⟩
      obtain rfl : kd = 1 := hc
      exact rFits_l1 b neg dig exp u wd s n A c w
    · obtain rfl := leaf_nil (.inr (.inl hc)) ho
      obtain ⟨A, c, rfl, _, _, _⟩ := hk.form
      rcases h with ⟨kd, b, neg, dig, exp, u, wd, s⟩
      obtain rfl : kd = 2 := hc
      exact rFits_l2 b neg dig exp u wd s n A c w
    · obtain rfl := leaf_nil (.inr (.inr (.inl hc))) ho
      obtain ⟨A, c, rfl, _, _, _⟩ := hk.form
      rcases h with ⟨kd, b, neg, dig, exp, u, wd, s⟩
      obtain rfl : kd = 3 := hc
      exact rFits_l3 b neg dig exp u wd s n A c w
    · obtain rfl := leaf_nil (.inr (.inr (.inr (.inl hc)))) ho
      obtain ⟨A, c, rfl, _, _, _⟩ := hk.form
      rcases h with ⟨kd, b, neg, dig, exp, u, wd, s⟩
      obtain rfl : kd = 4 := hc
      have hs : (widO u wd).isSome = true := by
        simp [okN, o_isFloat] at ho
        exact ho.1
      have hlt : (widO u wd).getD 0 < 18446744073709551616 := by
        cases hq : widO u wd with
        | none => simp
        | some y => exact wid_lt hu hq
      exact rFits_l4 b neg dig exp u wd s n A c w (widO_w hs) hlt
    · obtain rfl := leaf_nil (.inr (.inr (.inr (.inr (.inl hc))))) ho
      obtain ⟨A, c, rfl, _, _, _⟩ := hk.form
      rcases h with ⟨kd, b, neg, dig, exp, u, wd, s⟩
      obtain rfl : kd = 5 := hc
      exact rFits_l5 b neg dig exp u wd s n A c w
    · obtain rfl := leaf_nil (.inr (.inr (.inr (.inr (.inr (.inl hc)))))) ho
      obtain ⟨A, c, rfl, _, _, _⟩ := hk.form
      rcases h with ⟨kd, b, neg, dig, exp, u, wd, s⟩
      obtain rfl : kd = 6 := hc
      exact rFits_l6 b neg dig exp u wd s n A c w
    · by_cases g1 : (1 : Int) ≤ n
      · by_cases g2 : n ≤ 4
        · exact rFits_7_in h k v n w hk hc (by omega) (by omega) hI
        · exact rFits_7_hi h k v n w hk hc g1 g2 hI
      · exact rFits_7_lo h k v n w hk hc g1 hI
    · by_cases g1 : (1 : Int) ≤ n
      · by_cases g2 : n ≤ 4
        · exact rFits_8_in h k v n w hk hc (by omega) (by omega) hG.1 (ok_kinds hck) hI
        · exact rFits_8_hi h k v n w hk hc g1 g2 hG.1 hI
      · exact rFits_8_lo h k v n w hk hc g1 hG.1 hI
    · by_cases g1 : (1 : Int) ≤ n
      · by_cases g2 : n ≤ 4
        · have hn : n = 1 ∨ n = 2 ∨ n = 3 ∨ n = 4 := by omega
          rcases hn with hn | hn | hn | hn
          · exact rFits_9_1 h k v n w hk hc hn hI
          · exact rFits_9_2 h k v n w hk hc hn hI
          · exact rFits_9_3 h k v n w hk hc hn hI
          · exact rFits_9_4 h k v n w hk hc hn hI
        · exact rFits_9_hi h k v n w hk hc g1 g2 hI
      · exact rFits_9_lo h k v n w hk hc g1 hI
    · obtain rfl := leaf_nil (.inr (.inr (.inr (.inr (.inr (.inr (.inl hc))))))) ho
      obtain ⟨A, c, rfl, _, _, _⟩ := hk.form
      rcases h with ⟨kd, b, neg, dig, exp, u, wd, s⟩
      obtain rfl : kd = 10 := hc
      exact rFits_l10 b neg dig exp u wd s n A c w
    · obtain rfl := leaf_nil (.inr (.inr (.inr (.inr (.inr (.inr (.inr hc))))))) ho
      obtain ⟨A, c, rfl, _, _, _⟩ := hk.form
      rcases h with ⟨kd, b, neg, dig, exp, u, wd, s⟩
      obtain rfl : kd = 11 := hc
      exact rFits_l11 b neg dig exp u wd s n A c w
theorem rFits_calls (n : Int) (k : Fo) (h : Hd) (v : Value) (w : World) (hk : Kd An w v k) (hu : h.u < 18446744073709551616) (hG : AllG Gl (.cons h k .nil)) (hok : okAll okN (.cons h k .nil) = true) : Calls Tryz.prog 21 #[.agg (h.cells v), .int .i64 n] w (BolP (fitAll (frmOf n) (.cons h k .nil)) w) := rFits_any n (k.cnt + 1) k h v w (by omega) hk hu hG hok
set_option maxRecDepth 100000 in
set_option maxHeartbeats 1000000 in
theorem rCheck_calls (n : Int) (k : Fo) (h : Hd) (v : Value) (w : World) (hk : Kd An w v k) (hu : h.u < 18446744073709551616) (hG : AllG Gl (.cons h k .nil)) (hd : k.deep < 1000) (hc : k.cnt < 1000000000) : Calls Tryz.prog 14 #[.agg (h.cells v), .int .i64 n] w fun o w' => o = .returned (.int .i64 (chk n h k)) ∧ Below w.heap.size w w' := by
  obtain ⟨A, c, rfl, _, _, _⟩ := hk.form
  have HR : Hid (∀ W, Below w.heap.size w W → Calls Tryz.prog 20 #[.agg (h.cells (.slice A k.len c))] W (BolP (rgt h k) W)) := Lib.hid (fun W hW => rTree_calls k h _ W (hk.below hW) hG hd hc)
  have HFt : Hid (rgt h k = true → ∀ W, Below w.heap.size w W → Calls Tryz.prog 21 #[.agg (h.cells (.slice A k.len c)), .int .i64 n] W (BolP (fitAll (frmOf n) (.cons h k .nil)) W)) := Lib.hid (fun e W hW => rFits_calls n k h _ W (hk.below hW) hu hG (by rw [rgt, rightR, Bool.and_eq_true] at e; exact e.2))
  have HC : Hid (chk n h k = if rgt h k then (if fitAll (frmOf n) (.cons h k .nil) then 0 else 61) else 60) := Lib.hid rfl
  obtain ⟨R, hR⟩ : ∃ R, R = rgt h k := ⟨_, rfl⟩
  obtain ⟨Q, hQ⟩ : ∃ Q, Q = fitAll (frmOf n) (.cons h k .nil) := ⟨_, rfl⟩
  rw [← hR] at HR HFt HC
  rw [← hQ] at HFt HC
  rw [HC.out]
  clear hR hQ hk hu hG hd hc HC
  simp only [Hd.cells] at HR HFt ⊢
  have HX := Lib.hid (Nx.new w h (.slice A k.len c))
  have HB := Lib.hid (below_a (Below.refl _ w) (.cells (h.cells (.slice A k.len c)) 27))
  go_enter Tryz.func14, Tryz.ntmps14
  go_wp2_with fail
  refine (HR.out _ HB.out).mono ?_
  rintro o w1 ⟨rfl, hb1⟩
  replace HB := Lib.hid (below_nx HB.out hb1)
  replace HX := Lib.hid (HX.out.below hb1)
  clear hb1
  obtain ⟨y0, y1, y2, y3, y4, y5, y6, y7, y8⟩ := HX.out.nine
  cases R with
  | false =>
    go_wp2_with fail
    go_ret
    exact ⟨rfl, HB.out⟩
  | true =>
    go_wp2_with fail
    refine (HFt.out (by first | rfl | trivial) _ HB.out).mono ?_
    rintro o w2 ⟨rfl, hb2⟩
    replace HB := Lib.hid (below_nx HB.out hb2)
    clear hb2 y0 y1 y2 y3 y4 y5 y6 y7 y8
    cases Q with
    | true =>
      go_wp2_with fail
      go_ret
      exact ⟨rfl, HB.out⟩
    | false =>
      go_wp2_with fail
      go_ret
      exact ⟨rfl, HB.out⟩
end Go.Proofs.YtomociaidccfmaaGreatDoor
