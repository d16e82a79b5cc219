/- Documents: what they are. -/
import Derived.Test.YtomociaidccfmaaGreatDoorNp
import Derived.Test.YtomociaidccfmaaGreatDoorNa
import Derived.Test.YtomociaidccfmaaGreatDoorMp
namespace Go.Proofs.YtomociaidccfmaaGreatDoor
open Go.RowKit

def nullB : ByteArray := ⟨#[110, 117, 108, 108]⟩
def truthB (b : Bool) : ByteArray := if b then ⟨#[116, 114, 117, 101]⟩ else ⟨#[102, 97, 108, 115, 101]⟩
/-- The document of a node that has no list. -/
def leafB (h : Hd) : ByteArray := if h.kind = 1 then nullB else if h.kind = 2 then truthB h.b else if h.kind = 3 then sgnB h.neg (fmtB h.dig h.exp) else quoteB h.s
/-- The mark behind a node, and what follows it, within so many lists. -/
def sepB (L : Lay) (i : Nat) (m o : Bool) : ByteArray := if m && !o then ⟨#[58]⟩ ++ L.k else ⟨#[44]⟩ ++ nlB L i
def Fo.isNil : Fo → Bool
  | .nil => true
  | .cons _ _ _ => false
/-- What stands between a list's marks. -/
def innB (L : Lay) (i : Nat) (e : Bool) (x : ByteArray) : ByteArray := if e then ⟨#[]⟩ else nlB L (i + 1) ++ x ++ nlB L i
def wrapB (L : Lay) (i : Nat) (h : Hd) (e : Bool) (x : ByteArray) : ByteArray :=
  if h.kind = 7 then ⟨#[91]⟩ ++ innB L i e x ++ ⟨#[93]⟩ else if h.kind = 8 then ⟨#[123]⟩ ++ innB L i e x ++ ⟨#[125]⟩ else leafB h
/-- Nodes of a list: m: of a map; o: the first one stands at an odd place. -/
def docs (L : Lay) : Fo → Nat → Bool → Bool → ByteArray
  | .nil, _, _, _ => ⟨#[]⟩
  | .cons h k r, i, m, o => wrapB L i h k.isNil (docs L k (i + 1) (h.kind == 8) false) ++ ((if r.isNil then ⟨#[]⟩ else sepB L i m o) ++ docs L r i m (!o))
/-- A node's document, within so many lists. -/
def nodeB (L : Lay) (i : Nat) (h : Hd) (k : Fo) : ByteArray := wrapB L i h k.isNil (docs L k (i + 1) (h.kind == 8) false)
theorem docs_cons (L : Lay) (h : Hd) (k r : Fo) (i : Nat) (m o : Bool) : docs L (.cons h k r) i m o = nodeB L i h k ++ ((if r.isNil then ⟨#[]⟩ else sepB L i m o) ++ docs L r i m (!o)) := rfl
/-- A node that fits, whatever is in its list. -/
def Gj : Hd → Fo → Prop := fun h k => (h.kind = 1 ∨ h.kind = 2 ∨ (h.kind = 3 ∧ rightD h.neg h.dig.data.toList h.exp = true) ∨ (h.kind = 5 ∧ utfW h.s 0 = true ∧ h.s.size ≤ 400) ∨ h.kind = 7 ∨ h.kind = 8) ∧ k.len ≤ 300
theorem isNil_len (k : Fo) : k.isNil = decide (k.len = 0) := by
  cases k with
  | nil => rfl
  | cons h k r => simp [Fo.isNil, Fo.len]
theorem e_app (s : ByteArray) : (ByteArray.mk #[]) ++ s = s := str_inj (by rw [app_data]; rfl)
theorem app_e (s : ByteArray) : s ++ (ByteArray.mk #[]) = s := str_inj (by rw [app_data]; simp)

/-! How long. -/
theorem repS_size (s : ByteArray) (n : Nat) : (repS s n).size = n * s.size := by
  have h := Lib.repeatL_length s.data.toList n
  have h2 : s.data.toList.length = s.size := Array.length_toList
  rw [h2] at h
  exact h
theorem nlB_size (L : Lay) (n : Nat) : (nlB L n).size = L.e.size + n * L.d.size := by rw [nlB, ByteArray.size_append, repS_size]
/-- A layout whose words are short. -/
structure Lay.ok (L : Lay) : Prop where
  e : L.e.size ≤ 1
  d : L.d.size ≤ 2
  k : L.k.size ≤ 1
theorem nlB_le {L : Lay} (hL : L.ok) {n : Nat} (hn : n ≤ 40) : (nlB L n).size ≤ 81 := by
  rw [nlB_size]
  have h1 := hL.e
  have h2 := Nat.mul_le_mul hn hL.d
  omega
theorem sepB_le {L : Lay} (hL : L.ok) {i : Nat} (hn : i ≤ 40) (m o : Bool) : (sepB L i m o).size ≤ 82 := by
  have h1 := nlB_le hL hn
  have h2 := hL.k
  unfold sepB
  split
  · rw [ByteArray.size_append, show (ByteArray.mk #[58]).size = 1 from rfl]; omega
  · rw [ByteArray.size_append, show (ByteArray.mk #[44]).size = 1 from rfl]; omega
theorem leafB_le {h : Hd} {k : Fo} (hg : Gj h k) (h7 : h.kind ≠ 7) (h8 : h.kind ≠ 8) : (leafB h).size ≤ 2402 := by
  unfold leafB
  split
  · show 4 ≤ 2402; decide
  · split
    · unfold truthB; split <;> decide
    · split
      · rename_i h3
        rcases hg.1 with h1 | h1 | h1 | h1 | h1 | h1
        · omega
        · omega
        · have h2 := fmtB_size h1.2
          have h4 : (sgnB h.neg (fmtB h.dig h.exp)).size ≤ (fmtB h.dig h.exp).size + 1 := by
            unfold sgnB
            split
            · rw [ByteArray.size_append, show (ByteArray.mk #[45]).size = 1 from rfl]; omega
            · omega
          omega
        · omega
        · omega
        · omega
      · have h2 := quoteB_size h.s
        rcases hg.1 with h1 | h1 | h1 | h1 | h1 | h1
        · omega
        · omega
        · omega
        · have := h1.2.2; omega
        · exact absurd h1 h7
        · exact absurd h1 h8
theorem nodeB_le {L : Lay} (hL : L.ok) {h : Hd} {k : Fo} {i x : Nat} (hg : Gj h k) (hi : i + 1 ≤ 40) (hx : (docs L k (i + 1) (h.kind == 8) false).size ≤ x) : (nodeB L i h k).size ≤ 2402 + x := by
  have h1 := nlB_le hL hi
  have h2 := nlB_le hL (n := i) (by omega)
  have h3 : (innB L i k.isNil (docs L k (i + 1) (h.kind == 8) false)).size ≤ 162 + x := by
    unfold innB
    split
    · exact Nat.zero_le _
    · rw [ByteArray.size_append, ByteArray.size_append]; omega
  unfold nodeB wrapB
  split
  · rw [ByteArray.size_append, ByteArray.size_append, show (ByteArray.mk #[91]).size = 1 from rfl, show (ByteArray.mk #[93]).size = 1 from rfl]; omega
  · split
    · rw [ByteArray.size_append, ByteArray.size_append, show (ByteArray.mk #[123]).size = 1 from rfl, show (ByteArray.mk #[125]).size = 1 from rfl]; omega
    · have := leafB_le hg (by assumption) (by assumption)
      omega
theorem docs_le {L : Lay} (hL : L.ok) : ∀ (f : Fo) (i : Nat) (m o : Bool), AllG Gj f → i + f.deep ≤ 40 → (docs L f i m o).size ≤ f.cnt * 2700
  | .nil, _, _, _, _, _ => Nat.zero_le _
  | .cons h k r, i, m, o, ⟨g1, g2, g3⟩, hd => by
    simp only [Fo.deep] at hd
    have h1 := docs_le hL k (i + 1) (h.kind == 8) false g2 (by omega)
    have h2 := docs_le hL r i m (!o) g3 (by omega)
    have h3 := nodeB_le hL g1 (by omega) h1
    have h4 : (if r.isNil then (⟨#[]⟩ : ByteArray) else sepB L i m o).size ≤ 82 := by
      split
      · exact Nat.zero_le _
      · exact sepB_le hL (by omega) m o
    rw [docs_cons, ByteArray.size_append, ByteArray.size_append, Fo.cnt]
    omega
/-- What stands behind a node and its mark. -/
def itB (L : Lay) (i : Nat) (m : Bool) (n j : Nat) (h : Hd) (k : Fo) : ByteArray := nodeB L i h k ++ (if j + 1 = n then ⟨#[]⟩ else sepB L i m (j % 2 == 1))
theorem docs_drop (L : Lay) (f : Fo) (i : Nat) (m : Bool) (j : Nat) {h : Hd} {k r : Fo} (e : f.drop j = .cons h k r) :
    docs L (f.drop j) i m (j % 2 == 1) = itB L i m f.len j h k ++ docs L (f.drop (j + 1)) i m ((j + 1) % 2 == 1) := by
  have h1 := drop_len j f
  have h2 : j < f.len := by
    rw [e, Fo.len] at h1
    omega
  have h3 := drop_succ j f e
  have h4 : r.isNil = decide (j + 1 = f.len) := by
    rw [isNil_len, ← h3, drop_len]
    exact decide_eq_decide.2 (by omega)
  rw [e, docs_cons, h3, h4, itB, ByteArray.append_assoc]
  congr 2
  · by_cases hj : j + 1 = f.len
    · rw [if_pos (by simpa using hj), if_pos hj]
    · rw [if_neg (by simpa using hj), if_neg hj]
  · congr 1
    rcases Nat.mod_two_eq_zero_or_one j with h5 | h5
    · rw [h5, show (j + 1) % 2 = 1 by omega]; rfl
    · rw [h5, show (j + 1) % 2 = 0 by omega]; rfl
theorem itB_le (L : Lay) : ∀ (f : Fo) (i : Nat) (m : Bool) (n j j0 : Nat) {h : Hd} {k r : Fo}, f.drop j = .cons h k r → n = j0 + f.len → (itB L i m n (j0 + j) h k).size ≤ (docs L f i m (j0 % 2 == 1)).size
  | .cons h k r, i, m, n, 0, j0, _, _, _, e, hn => by
    cases e
    have h4 : k.isNil = k.isNil := rfl
    have := docs_drop L (.cons h k r) i m 0 (h := h) (k := k) (r := r) rfl
    rw [docs_cons, itB, ByteArray.size_append, ByteArray.size_append, ByteArray.size_append]
    have h5 : (if j0 + 0 + 1 = n then (⟨#[]⟩ : ByteArray) else sepB L i m ((j0 + 0) % 2 == 1)) = (if r.isNil then ⟨#[]⟩ else sepB L i m (j0 % 2 == 1)) := by
      rw [isNil_len, hn, Fo.len]
      by_cases hr : r.len = 0
      · rw [if_pos (by omega), if_pos (by simpa using hr)]
      · rw [if_neg (by omega), if_neg (by simpa using hr)]
        rfl
    rw [h5]
    omega
  | .nil, _, _, _, 0, _, _, _, _, e, _ => by cases e
  | .nil, _, _, _, _ + 1, _, _, _, _, e, _ => by cases e
  | .cons h k r, i, m, n, j + 1, j0, h', k', r', e, hn => by
    have h1 := itB_le L r i m n j (j0 + 1) (h := h') (k := k') (r := r') e (by rw [hn, Fo.len]; omega)
    rw [docs_cons, ByteArray.size_append, ByteArray.size_append]
    have h5 : ((j0 + 1) % 2 == 1) = !(j0 % 2 == 1) := by
      rcases Nat.mod_two_eq_zero_or_one j0 with h5 | h5
      · rw [h5, show (j0 + 1) % 2 = 1 by omega]; rfl
      · rw [h5, show (j0 + 1) % 2 = 0 by omega]; rfl
    rw [h5, show j0 + 1 + j = j0 + (j + 1) by omega] at h1
    omega
/-! What fits. -/
theorem gj_of (h : Hd) (k : Fo) (h1 : okN h k = true) (h2 : fitN (frmOf 1) h k = true) (h3 : 1 ≤ h.kind ∧ h.kind ≤ 11) (hl : k.len ≤ 300) : Gj h k := by
  refine ⟨?_, hl⟩
  have h4 : hasB 430 h.kind = true := by
    rw [fitN, Bool.and_eq_true] at h2
    exact h2.1
  have h5 : h.kind = 1 ∨ h.kind = 2 ∨ h.kind = 3 ∨ h.kind = 4 ∨ h.kind = 5 ∨ h.kind = 6 ∨ h.kind = 7 ∨ h.kind = 8 ∨ h.kind = 9 ∨ h.kind = 10 ∨ h.kind = 11 := by omega
  rcases h5 with e | e | e | e | e | e | e | e | e | e | e
  · exact .inl e
  · exact .inr (.inl e)
  · refine .inr (.inr (.inl ⟨e, ?_⟩))
    rw [okN, if_neg (by omega), if_neg (by omega), if_pos e, o_isNum, Bool.and_eq_true] at h1
    exact h1.2
  · rw [e] at h4; exact absurd h4 (by decide)
  · refine .inr (.inr (.inr (.inl ⟨e, ?_⟩)))
    rw [okN, if_neg (by omega), if_neg (by omega), if_neg (by omega), if_neg (by omega), if_pos e, o_isText, o_isBytes, Bool.and_eq_true, Bool.and_eq_true, decide_eq_true_eq] at h1
    exact ⟨h1.2, h1.1.2⟩
  · rw [e] at h4; exact absurd h4 (by decide)
  · exact .inr (.inr (.inr (.inr (.inl e))))
  · exact .inr (.inr (.inr (.inr (.inr e))))
  · rw [e] at h4; exact absurd h4 (by decide)
  · rw [e] at h4; exact absurd h4 (by decide)
  · rw [e] at h4; exact absurd h4 (by decide)
theorem gj_all : ∀ (f : Fo), okAll okN f = true → fitAll (frmOf 1) f = true → f.cnt ≤ 300 → AllG Gj f
  | .nil, _, _, _ => trivial
  | .cons h k r, h1, h2, h3 => by
    rw [okAll] at h1
    rw [fitAll] at h2
    simp only [Bool.and_eq_true, decide_eq_true_eq] at h1 h2
    rw [Fo.cnt] at h3
    have := len_cnt k
    exact ⟨gj_of h k h1.1.1.2 h2.1.1 h1.1.1.1 (by omega), gj_all k h1.1.2 h2.1.2 (by omega), gj_all r h1.2 h2.2 (by omega)⟩
/-- A tree that fits FormJ. -/
theorem chk_fits {h : Hd} {k : Fo} (e : chk 1 h k = 0) : AllG Gj (.cons h k .nil) ∧ 1 + k.cnt ≤ 300 ∧ k.deep + 1 ≤ 16 := by
  unfold chk at e
  split at e
  · rename_i h1
    split at e
    · rename_i h2
      rw [rgt, rightR, Bool.and_eq_true, decide_eq_true_eq] at h1
      exact ⟨gj_all _ h1.2 h2 (by rw [Fo.cnt]; simp only [Fo.cnt]; omega), h1.1⟩
    · cases e
  · cases e
end Go.Proofs.YtomociaidccfmaaGreatDoor
