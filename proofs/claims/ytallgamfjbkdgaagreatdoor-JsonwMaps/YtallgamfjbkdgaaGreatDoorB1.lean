/- An array's plain document out of its nodes'. -/
import Derived.Test.YtallgamfjbkdgaaGreatDoorA3
namespace Go.Proofs.YtallgamfjbkdgaaGreatDoor
open Go.RowKit

def fewF : Fo → Fo
  | .nil => .nil
  | .cons h k r => .cons (cutH h) (fewK k) (fewF r)
theorem fewF_app : ∀ (f : Fo) (h : Hd) (k : Fo), fewF (f.app (.cons h k .nil)) = (fewF f).app (.cons (cutH h) (fewK k) .nil)
  | .nil, _, _ => rfl
  | .cons a b r, h, k => by simp only [Fo.app, fewF]; rw [fewF_app r h k]
theorem fewF_len : ∀ (f : Fo), (fewF f).len = f.len
  | .nil => rfl
  | .cons _ _ r => by simp only [fewF, Fo.len]; rw [fewF_len r]
theorem fewF_cons (h : Hd) (k r : Fo) : fewF (.cons h k r) = .cons (cutH h) (fewK k) (fewF r) := by rw [fewF]
theorem deep_cons {h : Hd} {K R : Fo} (h1 : K.deep ≤ 17) (h2 : R.deep ≤ 18) : (Fo.cons h K R).deep ≤ 18 := by
  simp only [Fo.deep]
  omega
theorem few_deep1 {k K : Fo} (e : K = fewK k) : K.deep ≤ 17 := by rw [e]; exact few_deep k
theorem fewF_deep (f : Fo) : (fewF f).deep ≤ 18 := by
  induction f with
  | nil => exact Nat.zero_le _
  | cons h k r _ ih =>
    rw [fewF_cons]
    obtain ⟨K, hK⟩ : ∃ K, K = fewK k := ⟨_, rfl⟩
    have h1 := few_deep1 hK
    rw [← hK]
    clear hK
    exact deep_cons h1 ih
theorem few_all1 (h : Hd) {k K : Fo} (e : K = fewK k) : AllG Gl (.cons h K .nil) := by rw [e]; exact few_all h k
theorem fewF_all (f : Fo) : AllG Gl (fewF f) := by
  induction f with
  | nil => trivial
  | cons h k r _ ih =>
    rw [fewF_cons]
    obtain ⟨K, hK⟩ : ∃ K, K = fewK k := ⟨_, rfl⟩
    have h1 := few_all1 (cutH h) hK
    rw [← hK]
    clear hK
    exact allG_cons h1.1 h1.2.1 ih
/-- Each one's plain document is written. -/
def okA : Fo → Bool
  | .nil => true
  | .cons h k r => decide (chk 1 h k = 0) && okA r
theorem okA_app : ∀ (f : Fo) (h : Hd) (k : Fo), okA (f.app (.cons h k .nil)) = (okA f && decide (chk 1 h k = 0))
  | .nil, h, k => by simp [Fo.app, okA]
  | .cons a b r, h, k => by simp only [Fo.app, okA]; rw [okA_app r h k, Bool.and_assoc]
/-- The documents, with commas between. -/
def wA : ByteArray → Bool → Fo → ByteArray
  | s, _, .nil => s
  | s, o, .cons h k r => wA ((if o then s ++ ⟨#[44]⟩ else s) ++ docB layP h k) true r
theorem wA_app : ∀ (f : Fo) (s : ByteArray) (o : Bool) (h : Hd) (k : Fo), wA s o (f.app (.cons h k .nil)) = (if o || !f.isNil then wA s o f ++ ⟨#[44]⟩ else wA s o f) ++ docB layP h k
  | .nil, s, o, h, k => by simp [Fo.app, wA, Fo.isNil]
  | .cons a b r, s, o, h, k => by
    simp only [Fo.app, wA]
    rw [wA_app r _ true h k]
    simp [Fo.isNil]
theorem doc_list {h : Hd} {k : Fo} (e : chk 1 h k = 0) : (docB layP h k).data.toList = nodeL h k := by rw [docB, if_pos e, node_list]
theorem wA_list : ∀ (f : Fo) (s : ByteArray) (o x : Bool), okA f = true → (wA s o f).data.toList = s.data.toList ++ ((if o && !f.isNil then [44] else []) ++ listL f false x)
  | .nil, s, o, x, _ => by simp [wA, Fo.isNil, listL]
  | .cons h k r, s, o, x, e => by
    rw [okA, Bool.and_eq_true, decide_eq_true_eq] at e
    rw [wA, wA_list r _ true (!x) e.2, listL_cons, app_data, doc_list e.1]
    have h1 : (if o = true then s ++ ⟨#[44]⟩ else s).data.toList = s.data.toList ++ (if o = true then [44] else []) := by
      cases o
      · simp
      · rw [if_pos rfl, if_pos rfl, app_data]
    rw [h1]
    have h2 : sepL false x = 44 := rfl
    rw [h2]
    cases o <;> cases r <;> simp [Fo.isNil]
theorem app_size (a b : ByteArray) : (a ++ b).size = a.size + b.size := ByteArray.size_append
theorem wA_size (X : Nat) (hX : ∀ h k, (docB layP h k).size ≤ X) : ∀ (f : Fo) (s : ByteArray) (o : Bool), (wA s o f).size ≤ s.size + f.len * (X + 1)
  | .nil, _, _ => by simp [wA]
  | .cons h k r, s, o => by
    have h1 := wA_size X hX r ((if o then s ++ ⟨#[44]⟩ else s) ++ docB layP h k) true
    have h2 := hX h k
    have h3 : (if o = true then s ++ ⟨#[44]⟩ else s).size ≤ s.size + 1 := by
      cases o
      · simp
      · rw [if_pos rfl, app_size]; exact Nat.le_refl _
    rw [app_size] at h1
    rw [wA, Fo.len, Nat.add_mul]
    omega
def hL : Hd := ⟨7, false, false, ⟨#[]⟩, 0, 0, 0, ⟨#[]⟩⟩
theorem list_doc {G : Fo} (e : chk 1 hL G = 0) (ok : okA G = true) : (docB layP hL G).toList = (wA ⟨#[91]⟩ false G ++ ⟨#[93]⟩).toList := by
  have h : docB layP hL G = wA ⟨#[91]⟩ false G ++ ⟨#[93]⟩ := by
    apply str_inj
    rw [doc_list e, app_data, wA_list G _ false false ok, nodeL, if_pos (show hL.kind = 7 from rfl)]
    simp
  rw [h]
theorem okA_of : ∀ (f : Fo), okAll okN f = true → fitAll (frmOf 1) f = true → f.cnt ≤ 299 → f.deep ≤ 15 → okA f = true
  | .nil, _, _, _, _ => rfl
  | .cons h k r, h1, h2, h3, h4 => by
    rw [okAll] at h1
    rw [fitAll] at h2
    simp only [Bool.and_eq_true, decide_eq_true_eq] at h1 h2
    rw [Fo.cnt] at h3
    rw [Fo.deep] at h4
    rw [okA, okA_of r h1.2 h2.2 (by omega) (by omega), Bool.and_true, decide_eq_true_eq, chk]
    have hr : rgt h k = true := by
      rw [rgt, rightR, Bool.and_eq_true, decide_eq_true_eq]
      refine ⟨⟨by omega, by omega⟩, ?_⟩
      rw [okAll]
      simp only [Bool.and_eq_true, decide_eq_true_eq]
      exact ⟨⟨h1.1.1, h1.1.2⟩, rfl⟩
    rw [if_pos hr, if_pos]
    rw [fitAll]
    simp only [Bool.and_eq_true]
    exact ⟨⟨h2.1.1, h2.1.2⟩, rfl⟩
theorem of_okA : ∀ (f : Fo), okA f = true → okAll okN f = true ∧ fitAll (frmOf 1) f = true ∧ f.cnt ≤ 300 * f.len
  | .nil, _ => ⟨rfl, rfl, Nat.zero_le _⟩
  | .cons h k r, e => by
    rw [okA, Bool.and_eq_true, decide_eq_true_eq, chk] at e
    obtain ⟨h1, h2, h3⟩ := of_okA r e.2
    have e1 := e.1
    split at e1
    · rename_i hr
      split at e1
      · rename_i hf
        rw [rgt, rightR, Bool.and_eq_true, decide_eq_true_eq, okAll] at hr
        rw [fitAll] at hf
        simp only [Bool.and_eq_true, decide_eq_true_eq] at hr hf
        refine ⟨?_, ?_, ?_⟩
        · rw [okAll]
          simp only [Bool.and_eq_true, decide_eq_true_eq]
          exact ⟨⟨hr.2.1.1, hr.2.1.2⟩, h1⟩
        · rw [fitAll]
          simp only [Bool.and_eq_true]
          exact ⟨⟨hf.1.1, hf.1.2⟩, h2⟩
        · rw [Fo.cnt, Fo.len]; omega
      · cases e1
    · cases e1
theorem docB_le (h : Hd) (k : Fo) : (docB layP h k).size ≤ 810000 := by
  unfold docB
  split
  · rename_i e
    obtain ⟨h1, h2, h3⟩ := of_okA (.cons h k .nil) (by rw [okA, e]; rfl)
    have hd : k.deep + 1 ≤ 16 := by
      unfold chk at e
      split at e
      · rename_i hr
        rw [rgt, rightR, Bool.and_eq_true, decide_eq_true_eq] at hr
        exact hr.1.2
      · cases e
    have h5 : (Fo.cons h k .nil).cnt ≤ 300 := by simpa [Fo.len] using h3
    have h4 := docs_le okP (.cons h k .nil) 0 false false (gj_all _ h1 h2 h5) (by simp only [Fo.deep]; omega)
    rw [docs_cons, app_size] at h4
    omega
  · exact Nat.zero_le _
theorem list_none {G : Fo} (ok : okA G = false) : chk 1 hL G ≠ 0 := by
  intro e
  unfold chk at e
  split at e
  · rename_i hr
    split at e
    · rename_i hf
      rw [rgt, rightR, Bool.and_eq_true, decide_eq_true_eq, okAll] at hr
      rw [fitAll] at hf
      simp only [Bool.and_eq_true, decide_eq_true_eq] at hr hf
      rw [okA_of G hr.2.1.2 hf.1.2 (by omega) (by omega)] at ok
      cases ok
    · cases e
  · cases e
theorem okN_L (G : Fo) : okN hL G = true := by
  rw [okN, if_neg (by decide), if_neg (by decide), if_neg (by decide), if_neg (by decide), if_neg (by decide), if_neg (by decide), if_pos (show hL.kind = 7 from rfl), o_isArray, j_isArray, Bool.and_eq_true]
  exact ⟨same_self hL, by simp⟩
theorem fitN_L (G : Fo) : fitN (frmOf 1) hL G = true := by
  rw [fitN, Bool.and_eq_true]
  refine ⟨by decide, ?_⟩
  rw [if_neg (by decide), if_neg (by decide), if_neg (by decide)]
theorem list_chk {G : Fo} (ok : okA G = true) : (chk 1 hL G = 0) ∨ (chk 1 hL G = 60 ∧ (300 < 1 + G.cnt ∨ 16 < G.deep + 1)) := by
  obtain ⟨h1, h2, h3⟩ := of_okA G ok
  by_cases hc : 1 + G.cnt ≤ 300 ∧ G.deep + 1 ≤ 16
  · left
    have hr : rgt hL G = true := by
      rw [rgt, rightR, Bool.and_eq_true, decide_eq_true_eq, okAll]
      refine ⟨hc, ?_⟩
      simp only [Bool.and_eq_true, decide_eq_true_eq]
      exact ⟨⟨⟨by decide, okN_L G⟩, h1⟩, rfl⟩
    rw [chk, if_pos hr, if_pos]
    rw [fitAll]
    simp only [Bool.and_eq_true]
    exact ⟨⟨fitN_L G, h2⟩, rfl⟩
  · right
    refine ⟨?_, by omega⟩
    rw [chk, if_neg]
    rw [rgt, rightR, Bool.and_eq_true, decide_eq_true_eq]
    exact fun h => hc h.1
end Go.Proofs.YtallgamfjbkdgaaGreatDoor
