/- A map's plain document out of its members'. -/
import Derived.Test.YtallgamfjbkdgaaGreatDoorB1
namespace Go.Proofs.YtallgamfjbkdgaaGreatDoor
open Go.RowKit

/-- Strings, as they lie. -/
def Ks (w : World) (v : Value) (ks : List ByteArray) : Prop := ∃ A c, v = .slice A ks.length c ∧ ks.length ≤ 9223372036854775807 ∧ (ks.length ≠ 0 → ∃ B o, A = some ⟨B, o, none⟩ ∧ B < w.heap.size ∧ ∀ i s, ks[i]? = some s → w.cell? ⟨B, o + i, none⟩ = some (.string s)) ∧ ∀ s ∈ ks, s.size ≤ 9223372036854775807
def kH (s : ByteArray) : Hd := ⟨5, false, false, ⟨#[]⟩, 0, 0, 0, s⟩
def hM : Hd := ⟨8, false, false, ⟨#[]⟩, 0, 0, 0, ⟨#[]⟩⟩
def mapF (hn : Hd) (K : Fo) : List ByteArray → Fo
  | [] => .nil
  | s :: r => .cons (kH s) .nil (.cons hn K (mapF hn K r))
def keysL : List ByteArray → Fo
  | [] => .nil
  | s :: r => .cons (kH s) .nil (keysL r)
section
variable {hn : Hd} {K : Fo}
theorem mapF_app : ∀ (qs : List ByteArray) (s : ByteArray), mapF hn K (qs ++ [s]) = ((mapF hn K qs).app (.cons (kH s) .nil .nil)).app (.cons hn K .nil)
  | [], _ => rfl
  | q :: r, s => by simp only [List.cons_append, mapF, Fo.app]; rw [mapF_app r s]
theorem mapF_len : ∀ (qs : List ByteArray), (mapF hn K qs).len = 2 * qs.length
  | [] => rfl
  | q :: r => by simp only [mapF, Fo.len, List.length_cons]; rw [mapF_len r]; omega
theorem mapF_keys : ∀ (qs : List ByteArray), keysF (mapF hn K qs) = keysL qs
  | [] => rfl
  | q :: r => by simp only [mapF, keysF, keysL]; rw [mapF_keys r]
theorem mapF_cnt : ∀ (qs : List ByteArray), (mapF hn K qs).cnt = qs.length * (2 + K.cnt)
  | [] => by simp [mapF, Fo.cnt]
  | q :: r => by
    simp only [mapF, Fo.cnt, List.length_cons]
    rw [mapF_cnt r, Nat.add_mul]
    omega
theorem mapF_deep : ∀ (qs : List ByteArray), (mapF hn K qs).deep ≤ K.deep + 1
  | [] => Nat.zero_le _
  | q :: r => by
    have := mapF_deep r
    simp only [mapF, Fo.deep]
    omega
theorem mapF_okA (hk : chk 1 hn K = 0) : ∀ (qs : List ByteArray), (∀ s ∈ qs, chk 1 (kH s) .nil = 0) → okA (mapF hn K qs) = true
  | [], _ => rfl
  | q :: r, h => by
    simp only [mapF, okA]
    rw [mapF_okA hk r (fun s hs => h s (List.mem_cons_of_mem _ hs)), h q (List.mem_cons_self ..), hk]
    decide
theorem mapF_drop : ∀ (m : Nat) (qs : List ByteArray) {s : ByteArray}, qs[m]? = some s → ∃ r, (mapF hn K qs).drop (2 * m) = .cons (kH s) .nil r
  | 0, q :: r, s, h => by
    simp at h
    subst h
    exact ⟨_, rfl⟩
  | m + 1, q :: r, s, h => by
    rw [show 2 * (m + 1) = 2 * m + 1 + 1 by omega]
    simp only [mapF, Fo.drop]
    exact mapF_drop m r (by simpa using h)
  | _, [], _, h => by simp at h
end
/-! Distinct keys. -/
theorem app_assoc : ∀ (f g h : Fo), (f.app g).app h = f.app (g.app h)
  | .nil, _, _ => rfl
  | .cons a b r, g, h => by simp only [Fo.app]; rw [app_assoc r g h]
theorem distG_app : ∀ (f pre : Fo) (h : Hd) (k : Fo), distG pre (f.app (.cons h k .nil)) = (distG pre f && !hitF h k (pre.app f))
  | .nil, pre, h, k => by
    have h1 : pre.app .nil = pre := by
      induction pre with
      | nil => rfl
      | cons a b r _ ih => rw [Fo.app, ih]
    rw [h1]
    simp [Fo.app, distG]
  | .cons a b r, pre, h, k => by
    simp only [Fo.app, distG]
    rw [distG_app r _ h k, app_assoc]
    simp only [Fo.app]
    rw [Bool.and_assoc]
theorem keysL_app : ∀ (qs : List ByteArray) (s : ByteArray), keysL (qs ++ [s]) = (keysL qs).app (.cons (kH s) .nil .nil)
  | [], _ => rfl
  | q :: r, s => by simp only [List.cons_append, keysL, Fo.app]; rw [keysL_app r s]
/-- A key that was there. -/
def was (s : ByteArray) (qs : List ByteArray) : Bool := qs.any fun q => q.toList == s.toList
theorem same_key (s q : ByteArray) : (sameH (kH s) (kH q) && sameF .nil .nil) = (q.toList == s.toList) := by
  rw [Bool.eq_iff_iff, Bool.and_eq_true, beq_iff_eq]
  constructor
  · rintro ⟨h, _⟩
    have h1 := congrArg Hd.s (same_hd h)
    rw [show s = q from h1]
  · intro h
    rw [bytes_eq h]
    exact ⟨same_self _, rfl⟩
theorem hit_keys : ∀ (qs : List ByteArray) (s : ByteArray), hitF (kH s) .nil (keysL qs) = was s qs
  | [], _ => rfl
  | q :: r, s => by
    simp only [keysL, hitF, was, List.any_cons]
    rw [hit_keys r s, was]
    rw [same_key s q]
theorem dist_app (qs : List ByteArray) (s : ByteArray) (h : distF (keysL qs) = true) (hs : was s qs = false) : distF (keysL (qs ++ [s])) = true := by
  unfold distF at h ⊢
  rw [keysL_app, distG_app, h, Fo.app, hit_keys, hs]
  rfl
theorem keyAll_L : ∀ (qs : List ByteArray), keyAll (frmOf 1).keys (keysL qs) = true
  | [] => rfl
  | q :: r => by
    rw [keysL, keyAll, keyAll_L r, Bool.and_true]
    show hasB (frmOf 1).keys 5 = true
    decide
theorem map_chk {hn : Hd} {K : Fo} {qs : List ByteArray} (hk : chk 1 hn K = 0) (ha : ∀ s ∈ qs, chk 1 (kH s) .nil = 0) (hd : distF (keysL qs) = true) (hl : qs.length ≤ 10) (hc : 1 + K.cnt ≤ 20) (hp : K.deep + 1 ≤ 15) : chk 1 hM (mapF hn K qs) = 0 := by
  have ok := mapF_okA hk qs ha
  obtain ⟨h1, h2, _⟩ := of_okA _ ok
  have h3 := mapF_cnt (hn := hn) (K := K) qs
  have h4 := mapF_deep (hn := hn) (K := K) qs
  have h5 : qs.length * (2 + K.cnt) ≤ 10 * 21 := Nat.mul_le_mul hl (by omega)
  have h6 : okN hM (mapF hn K qs) = true := by
    rw [okN, if_neg (by decide), if_neg (by decide), if_neg (by decide), if_neg (by decide), if_neg (by decide), if_neg (by decide), if_neg (by decide), if_pos (show hM.kind = 8 from rfl), o_isMap, o_isArray, j_isArray, mapF_keys, hd, mapF_len]
    simp only [Bool.and_eq_true, decide_eq_true_eq]
    exact ⟨⟨⟨same_self hM, by simp⟩, by omega⟩, trivial⟩
  have h7 : fitN (frmOf 1) hM (mapF hn K qs) = true := by
    rw [fitN, Bool.and_eq_true]
    refine ⟨by decide, ?_⟩
    rw [if_neg (by decide), if_neg (by decide), if_pos (show hM.kind = 8 from rfl), fitMp, mapF_keys]
    exact keyAll_L qs
  have hr : rgt hM (mapF hn K qs) = true := by
    rw [rgt, rightR, Bool.and_eq_true, decide_eq_true_eq, okAll]
    refine ⟨⟨by omega, by omega⟩, ?_⟩
    simp only [Bool.and_eq_true, decide_eq_true_eq]
    exact ⟨⟨⟨by decide, h6⟩, h1⟩, rfl⟩
  rw [chk, if_pos hr, if_pos]
  rw [fitAll]
  simp only [Bool.and_eq_true]
  exact ⟨⟨h7, h2⟩, rfl⟩
/-! What is written. -/
def mStep (N : ByteArray) (w : ByteArray) (s : ByteArray) : ByteArray := (if w = ⟨#[]⟩ then w else w ++ ⟨#[44]⟩) ++ docB layP (kH s) .nil ++ ⟨#[58]⟩ ++ N
def wM (N : ByteArray) (w : ByteArray) (qs : List ByteArray) : ByteArray := qs.foldl (mStep N) w
theorem wM_app (N w : ByteArray) (qs : List ByteArray) (s : ByteArray) : wM N w (qs ++ [s]) = mStep N (wM N w qs) s := by
  unfold wM
  rw [List.foldl_append]
  rfl
theorem wM_size (N : ByteArray) : ∀ (qs : List ByteArray) (w : ByteArray), (wM N w qs).size ≤ w.size + qs.length * (810002 + N.size)
  | [], w => by simp [wM]
  | q :: r, w => by
    have h1 := wM_size N r (mStep N w q)
    have h2 := docB_le (kH q) .nil
    have h3 : (mStep N w q).size ≤ w.size + (810002 + N.size) := by
      unfold mStep
      rw [app_size, app_size, app_size]
      have h4 : (if w = ⟨#[]⟩ then w else w ++ ⟨#[44]⟩).size ≤ w.size + 1 := by
        split
        · omega
        · rw [app_size]; exact Nat.le_refl _
      have h5 : (ByteArray.mk #[58]).size = 1 := rfl
      omega
    have e : wM N w (q :: r) = wM N (mStep N w q) r := rfl
    rw [e, List.length_cons, Nat.add_mul]
    omega
theorem mStep_ne (N w s : ByteArray) : mStep N w s ≠ ⟨#[]⟩ := by
  intro h
  have h1 := congrArg (fun b => b.data.toList.length) h
  simp only [mStep, app_data, List.length_append] at h1
  simp at h1
theorem wM_list {hn : Hd} {K : Fo} (hk : chk 1 hn K = 0) : ∀ (qs : List ByteArray) (w : ByteArray), (∀ s ∈ qs, chk 1 (kH s) .nil = 0) →
    (wM (docB layP hn K) w qs).data.toList = w.data.toList ++ ((if w ≠ ⟨#[]⟩ ∧ qs ≠ [] then [44] else []) ++ listL (mapF hn K qs) true false)
  | [], w, _ => by simp [wM, mapF, listL]
  | q :: r, w, h => by
    have ih := wM_list hk r (mStep (docB layP hn K) w q) (fun s hs => h s (List.mem_cons_of_mem _ hs))
    have e : wM (docB layP hn K) w (q :: r) = wM (docB layP hn K) (mStep (docB layP hn K) w q) r := rfl
    rw [e, ih, mStep, app_data, app_data, app_data, doc_list hk, doc_list (h q (List.mem_cons_self ..)), mapF, listL_cons, listL_cons]
    have h1 : (if mStep (docB layP hn K) w q ≠ ⟨#[]⟩ ∧ r ≠ [] then [44] else []) = (if (mapF hn K r).isNil then ([] : List UInt8) else [sepL true true]) := by
      cases r with
      | nil => simp [mapF, Fo.isNil]
      | cons a b =>
        rw [if_pos ⟨mStep_ne _ _ _, by simp⟩]
        simp [mapF, Fo.isNil, sepL]
    have h1' := h1
    unfold mStep at h1'
    rw [h1']
    have h2 : (if w = ⟨#[]⟩ then w else w ++ ⟨#[44]⟩).data.toList = w.data.toList ++ (if w ≠ ⟨#[]⟩ ∧ q :: r ≠ [] then [44] else []) := by
      by_cases hw : w = ⟨#[]⟩
      · simp [hw]
      · rw [if_neg hw, if_pos ⟨hw, by simp⟩, app_data]
    rw [h2]
    have h3 : sepL true false = 58 := rfl
    simp [h3, show ∀ a b c, (Fo.cons a b c).isNil = false from fun _ _ _ => rfl]
theorem map_doc {hn : Hd} {K : Fo} {qs : List ByteArray} (hk : chk 1 hn K = 0) (ha : ∀ s ∈ qs, chk 1 (kH s) .nil = 0) (e : chk 1 hM (mapF hn K qs) = 0) : docB layP hM (mapF hn K qs) = ⟨#[123]⟩ ++ wM (docB layP hn K) ⟨#[]⟩ qs ++ ⟨#[125]⟩ := by
  apply str_inj
  rw [doc_list e, app_data, app_data, wM_list hk qs ⟨#[]⟩ ha, nodeL, if_neg (by decide), if_pos (show hM.kind = 8 from rfl)]
  simp
end Go.Proofs.YtallgamfjbkdgaaGreatDoor
