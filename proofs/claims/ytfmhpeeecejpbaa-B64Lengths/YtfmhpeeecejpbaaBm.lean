/- Plain mathematics: numbers of one width read as numbers of another one. -/
import Derived.Test.YtfmhpeeecejpbaaM
namespace Go.Proofs.Ytfmhpeeecejpbaa

/-- The first k numbers of t binary digits out of c of them. -/
def outs (t k H c : Nat) : List Nat := (List.range k).map fun j => (H % 2 ^ (c - j * t)) / 2 ^ (c - (j + 1) * t)
theorem outs_succ (t k H c : Nat) : outs t (k + 1) H c = outs t k H c ++ [(H % 2 ^ (c - k * t)) / 2 ^ (c - (k + 1) * t)] := by simp [outs, List.range_succ]
theorem outs_length (t k H c : Nat) : (outs t k H c).length = k := by simp [outs]
/-- One number more. -/
def stepR (f t : Nat) (S : List Nat × Nat × Nat) (n : Nat) : List Nat × Nat × Nat :=
  (S.1 ++ outs t ((S.2.2 + f) / t) (S.2.1 * 2 ^ f + n) (S.2.2 + f), (S.2.1 * 2 ^ f + n) % 2 ^ ((S.2.2 + f) % t), (S.2.2 + f) % t)
def foldR (f t : Nat) (L : List Nat) : List Nat × Nat × Nat := L.foldl (stepR f t) ([], 0, 0)
theorem foldR_snoc (f t : Nat) (L : List Nat) (n : Nat) : foldR f t (L ++ [n]) = stepR f t (foldR f t L) n := by simp [foldR, List.foldl_append]

/-- What is held is less than a number of its digits. -/
structure RI (t : Nat) (S : List Nat × Nat × Nat) : Prop where
  held : S.2.1 < 2 ^ S.2.2
  few : S.2.2 < t
theorem stepR_inv {f t : Nat} (ht : 0 < t) (S : List Nat × Nat × Nat) (n : Nat) : RI t (stepR f t S n) :=
  ⟨Nat.mod_lt _ (Nat.two_pow_pos _), Nat.mod_lt _ ht⟩
theorem foldR_inv {f t : Nat} (ht : 0 < t) (L : List Nat) : RI t (foldR f t L) := by
  rcases List.eq_nil_or_concat L with rfl | ⟨L', n, rfl⟩
  · exact ⟨by simp [foldR], by simpa [foldR] using ht⟩
  · rw [List.concat_eq_append, foldR_snoc]; exact stepR_inv ht _ _
theorem foldR_len {f t : Nat} (ht : 4 ≤ t) (ht8 : t ≤ 8) (hf : f ≤ 8) (L : List Nat) : (foldR f t L).1.length ≤ 3 * L.length := by
  obtain ⟨n, hn⟩ : ∃ n, n = L.length := ⟨_, rfl⟩
  induction n generalizing L with
  | zero => rw [List.eq_nil_of_length_eq_zero hn.symm]; simp [foldR]
  | succ n ih =>
    rcases List.eq_nil_or_concat L with rfl | ⟨L', m, rfl⟩
    · simp at hn
    · simp only [List.concat_eq_append, List.length_append, List.length_singleton] at hn ⊢
      rw [foldR_snoc, stepR, List.length_append, outs_length]
      have h1 := ih L' (by omega)
      have h2 := (foldR_inv (f := f) (show 0 < t by omega) L').few
      have h3 : ((foldR f t L').2.2 + f) / t < 4 := by rw [Nat.div_lt_iff_lt_mul (by omega)]; omega
      omega

/-- One number taken. -/
theorem take_at {t j H c : Nat} (h : (j + 1) * t ≤ c) : c - j * t - t = c - (j + 1) * t ∧ (H % 2 ^ (c - j * t)) % 2 ^ (c - j * t - t) = H % 2 ^ (c - (j + 1) * t) ∧ t ≤ c - j * t ∧ (H % 2 ^ (c - j * t)) / 2 ^ (c - (j + 1) * t) < 2 ^ t := by
  have e : (j + 1) * t = j * t + t := by rw [Nat.add_mul, Nat.one_mul]
  have e1 : c - j * t - t = c - (j + 1) * t := by omega
  refine ⟨e1, ?_, by omega, ?_⟩
  · rw [e1]
    exact Nat.mod_mod_of_dvd _ (Nat.pow_dvd_pow 2 (by omega))
  · rw [Nat.div_lt_iff_lt_mul (Nat.two_pow_pos _), ← Nat.pow_add, show t + (c - (j + 1) * t) = c - j * t by omega]
    exact Nat.mod_lt _ (Nat.two_pow_pos _)
theorem put_lt {f H c n : Nat} (hH : H < 2 ^ c) (hn : n < 2 ^ f) : H * 2 ^ f + n < 2 ^ (c + f) := by
  rw [Nat.pow_add]
  have h1 : H * 2 ^ f + 2 ^ f ≤ 2 ^ c * 2 ^ f := by rw [← Nat.succ_mul]; exact Nat.mul_le_mul_right _ hH
  omega

theorem s86_0 (o : List Nat) (n : Nat) (h : n < 256) : stepR 8 6 (o, 0, 0) n = (o ++ [n / 4], n % 4, 2) := by
  simp [stepR, outs]; omega
theorem s86_2 (o : List Nat) (H n : Nat) (hH : H < 4) (h : n < 256) : stepR 8 6 (o, H, 2) n = (o ++ [H * 16 + n / 16], n % 16, 4) := by
  simp [stepR, outs]; omega
theorem s86_4 (o : List Nat) (H n : Nat) (hH : H < 16) (h : n < 256) : stepR 8 6 (o, H, 4) n = (o ++ [H * 4 + n / 64, n % 64], 0, 0) := by
  simp [stepR, outs, List.range_succ]; omega
theorem s84 (o : List Nat) (n : Nat) (h : n < 256) : stepR 8 4 (o, 0, 0) n = (o ++ [n / 16, n % 16], 0, 0) := by
  simp [stepR, outs, List.range_succ]; omega
theorem s68_0 (o : List Nat) (n : Nat) (h : n < 64) : stepR 6 8 (o, 0, 0) n = (o, n, 6) := by
  simp [stepR, outs]; omega
theorem s68_6 (o : List Nat) (H n : Nat) (hH : H < 64) (h : n < 64) : stepR 6 8 (o, H, 6) n = (o ++ [H * 4 + n / 16], n % 16, 4) := by
  simp [stepR, outs]; omega
theorem s68_4 (o : List Nat) (H n : Nat) (hH : H < 16) (h : n < 64) : stepR 6 8 (o, H, 4) n = (o ++ [H * 16 + n / 4], n % 4, 2) := by
  simp [stepR, outs]; omega
theorem s68_2 (o : List Nat) (H n : Nat) (hH : H < 4) (h : n < 64) : stepR 6 8 (o, H, 2) n = (o ++ [H * 64 + n], 0, 0) := by
  simp [stepR, outs]; omega
theorem s48_0 (o : List Nat) (n : Nat) (h : n < 16) : stepR 4 8 (o, 0, 0) n = (o, n, 4) := by
  simp [stepR, outs]; omega
theorem s48_4 (o : List Nat) (H n : Nat) (hH : H < 16) (h : n < 16) : stepR 4 8 (o, H, 4) n = (o ++ [H * 16 + n], 0, 0) := by
  simp [stepR, outs]; omega

/-- What is held at the end, made full. -/
def fillL (t : Nat) (S : List Nat × Nat × Nat) : List Nat := if 0 < S.2.2 then [S.2.1 * 2 ^ (t - S.2.2)] else []

theorem code_fold : ∀ (s : List UInt8) (o : List Nat), ((s.map (·.toNat)).foldl (stepR 8 6) (o, 0, 0)).1.map lett ++ (fillL 6 ((s.map (·.toNat)).foldl (stepR 8 6) (o, 0, 0))).map lett = o.map lett ++ code s
  | [], o => by simp [fillL, code]
  | [a], o => by
    have ha := a.toNat_lt
    simp only [List.map_cons, List.map_nil, List.foldl_cons, List.foldl_nil, s86_0 _ _ ha, fillL, code]
    simp
  | [a, b], o => by
    have ha := a.toNat_lt
    have hb := b.toNat_lt
    simp only [List.map_cons, List.map_nil, List.foldl_cons, List.foldl_nil, s86_0 _ _ ha, s86_2 _ _ _ (Nat.mod_lt a.toNat (show 0 < 4 by omega)) hb, fillL, code]
    simp
  | a :: b :: c :: s, o => by
    have ha := a.toNat_lt
    have hb := b.toNat_lt
    have hc := c.toNat_lt
    simp only [List.map_cons, List.foldl_cons, s86_0 _ _ ha, s86_2 _ _ _ (Nat.mod_lt a.toNat (show 0 < 4 by omega)) hb, s86_4 _ _ _ (Nat.mod_lt b.toNat (show 0 < 16 by omega)) hc, code]
    rw [code_fold s]
    simp
theorem code_of_fold (s : List UInt8) : (foldR 8 6 (s.map (·.toNat))).1.map lett ++ (fillL 6 (foldR 8 6 (s.map (·.toNat)))).map lett = code s := by
  have := code_fold s []
  simpa [foldR] using this

theorem pairs_fold : ∀ (s : List UInt8) (o : List Nat), ((s.map (·.toNat)).foldl (stepR 8 4) (o, 0, 0)).2 = (0, 0) ∧ ((s.map (·.toNat)).foldl (stepR 8 4) (o, 0, 0)).1.map hexd = o.map hexd ++ pairs s
  | [], o => by simp [pairs]
  | a :: s, o => by
    have ha := a.toNat_lt
    simp only [List.map_cons, List.foldl_cons, s84 _ _ ha, pairs]
    obtain ⟨h1, h2⟩ := pairs_fold s (o ++ [a.toNat / 16, a.toNat % 16])
    exact ⟨h1, by rw [h2]; simp⟩
theorem pairs_of_fold (s : List UInt8) : (foldR 8 4 (s.map (·.toNat))).1.map hexd ++ (fillL 4 (foldR 8 4 (s.map (·.toNat)))).map hexd = pairs s := by
  obtain ⟨h1, h2⟩ := pairs_fold s []
  rw [fillL, foldR, h1, h2]
  simp

theorem isLett_lt {c : UInt8} (h : isLett c = true) : numb c.toNat < 64 := by simpa [isLett] using h
theorem lett_of {c : UInt8} (h : isLett c = true) : lett (numb c.toNat) = c := by
  rw [lett, lett_numb (isLett_lt h)]; exact UInt8.ofNat_toNat

theorem raw_fold : ∀ (t : List UInt8) (o : List Nat), t.all isLett = true →
    ((t.map fun c => numb c.toNat).foldl (stepR 6 8) (o, 0, 0)).1.map UInt8.ofNat = o.map UInt8.ofNat ++ raw t ∧
    ((code (raw t) = t) ↔ (((t.map fun c => numb c.toNat).foldl (stepR 6 8) (o, 0, 0)).2.2 < 6 ∧ ((t.map fun c => numb c.toNat).foldl (stepR 6 8) (o, 0, 0)).2.1 = 0))
  | [], o, _ => by simp [raw, code]
  | [a], o, h => by
    simp only [List.all_cons, List.all_nil, Bool.and_true] at h
    simp only [List.map_cons, List.map_nil, List.foldl_cons, List.foldl_nil, s68_0 _ _ (isLett_lt h), raw, code]
    simp
  | [a, b], o, h => by
    simp only [List.all_cons, List.all_nil, Bool.and_true, Bool.and_eq_true] at h
    have h1 := isLett_lt h.1
    have h2 := isLett_lt h.2
    simp only [List.map_cons, List.map_nil, List.foldl_cons, List.foldl_nil, s68_0 _ _ h1, s68_6 _ _ _ h1 h2, raw, code, u8_nat _ (show numb a.toNat * 4 + numb b.toNat / 16 < 256 by omega)]
    refine ⟨by simp, ?_⟩
    rw [show (numb a.toNat * 4 + numb b.toNat / 16) / 4 = numb a.toNat by omega, lett_of h.1, show (numb a.toNat * 4 + numb b.toNat / 16) % 4 * 16 = numb b.toNat / 16 * 16 by omega]
    constructor
    · intro e
      refine ⟨by omega, ?_⟩
      simp only [List.cons.injEq, and_true, true_and] at e
      have := congrArg (fun c => numb c.toNat) e
      simp only [numb_of_lett (show numb b.toNat / 16 * 16 < 64 by omega)] at this
      omega
    · rintro ⟨_, e⟩
      rw [show numb b.toNat / 16 * 16 = numb b.toNat by omega, lett_of h.2]
  | [a, b, c], o, h => by
    simp only [List.all_cons, List.all_nil, Bool.and_true, Bool.and_eq_true] at h
    have h1 := isLett_lt h.1
    have h2 := isLett_lt h.2.1
    have h3 := isLett_lt h.2.2
    simp only [List.map_cons, List.map_nil, List.foldl_cons, List.foldl_nil, s68_0 _ _ h1, s68_6 _ _ _ h1 h2, s68_4 _ _ _ (Nat.mod_lt (numb b.toNat) (show 0 < 16 by omega)) h3, raw, code, u8_nat _ (show numb a.toNat * 4 + numb b.toNat / 16 < 256 by omega), u8_nat _ (show numb b.toNat % 16 * 16 + numb c.toNat / 4 < 256 by omega)]
    refine ⟨by simp, ?_⟩
    rw [show (numb a.toNat * 4 + numb b.toNat / 16) / 4 = numb a.toNat by omega, lett_of h.1, show (numb a.toNat * 4 + numb b.toNat / 16) % 4 * 16 + (numb b.toNat % 16 * 16 + numb c.toNat / 4) / 16 = numb b.toNat by omega, lett_of h.2.1, show (numb b.toNat % 16 * 16 + numb c.toNat / 4) % 16 * 4 = numb c.toNat / 4 * 4 by omega]
    constructor
    · intro e
      refine ⟨by omega, ?_⟩
      simp only [List.cons.injEq, and_true, true_and] at e
      have := congrArg (fun c => numb c.toNat) e
      simp only [numb_of_lett (show numb c.toNat / 4 * 4 < 64 by omega)] at this
      omega
    · rintro ⟨_, e⟩
      rw [show numb c.toNat / 4 * 4 = numb c.toNat by omega, lett_of h.2.2]
  | a :: b :: c :: d :: t, o, h => by
    simp only [List.all_cons, Bool.and_eq_true] at h
    have h1 := isLett_lt h.1
    have h2 := isLett_lt h.2.1
    have h3 := isLett_lt h.2.2.1
    have h4 := isLett_lt h.2.2.2.1
    obtain ⟨g1, g2⟩ := raw_fold t (o ++ [numb a.toNat * 4 + numb b.toNat / 16] ++ [numb b.toNat % 16 * 16 + numb c.toNat / 4] ++ [numb c.toNat % 4 * 64 + numb d.toNat]) h.2.2.2.2
    simp only [List.map_cons, List.foldl_cons, s68_0 _ _ h1, s68_6 _ _ _ h1 h2, s68_4 _ _ _ (Nat.mod_lt (numb b.toNat) (show 0 < 16 by omega)) h3, s68_2 _ _ _ (Nat.mod_lt (numb c.toNat) (show 0 < 4 by omega)) h4, raw, code, u8_nat _ (show numb a.toNat * 4 + numb b.toNat / 16 < 256 by omega), u8_nat _ (show numb b.toNat % 16 * 16 + numb c.toNat / 4 < 256 by omega), u8_nat _ (show numb c.toNat % 4 * 64 + numb d.toNat < 256 by omega)]
    refine ⟨by rw [g1]; simp, ?_⟩
    rw [← g2, show (numb a.toNat * 4 + numb b.toNat / 16) / 4 = numb a.toNat by omega, lett_of h.1, show (numb a.toNat * 4 + numb b.toNat / 16) % 4 * 16 + (numb b.toNat % 16 * 16 + numb c.toNat / 4) / 16 = numb b.toNat by omega, lett_of h.2.1,
      show (numb b.toNat % 16 * 16 + numb c.toNat / 4) % 16 * 4 + (numb c.toNat % 4 * 64 + numb d.toNat) / 64 = numb c.toNat by omega, lett_of h.2.2.1, show (numb c.toNat % 4 * 64 + numb d.toNat) % 64 = numb d.toNat by omega, lett_of h.2.2.2.1]
    simp
/-- Which texts are codes, and of which bytes. -/
theorem raw_of_fold (t : List UInt8) (h : t.all isLett = true) : (foldR 6 8 (t.map fun c => numb c.toNat)).1.map UInt8.ofNat = raw t ∧
    ((code (raw t) = t) ↔ ((foldR 6 8 (t.map fun c => numb c.toNat)).2.2 < 6 ∧ (foldR 6 8 (t.map fun c => numb c.toNat)).2.1 = 0)) := by
  have := raw_fold t [] h
  simpa [foldR] using this
theorem isCode_fold (t : List UInt8) (hl : t.length ≤ 534) (h : t.all isLett = true) : isCode t = true ↔ ((foldR 6 8 (t.map fun c => numb c.toNat)).2.2 < 6 ∧ (foldR 6 8 (t.map fun c => numb c.toNat)).2.1 = 0) := by
  rw [← (raw_of_fold t h).2, isCode]; simp [hl]
theorem isCode_all {t : List UInt8} (h : isCode t = true) : t.all isLett = true := by
  obtain ⟨s, _, rfl⟩ := isCode_iff.1 h
  exact code_all s

theorem isHex_lt {c : UInt8} (h : isHex c = true) : unhex c.toNat < 16 := by simpa [isHex] using h
theorem unp_fold : ∀ (t : List UInt8) (o : List Nat), t.all isHex = true →
    ((t.map fun c => unhex c.toNat).foldl (stepR 4 8) (o, 0, 0)).1.map UInt8.ofNat = o.map UInt8.ofNat ++ unpair t ∧
    ((t.length % 2 = 0) ↔ (((t.map fun c => unhex c.toNat).foldl (stepR 4 8) (o, 0, 0)).2.2 < 4 ∧ ((t.map fun c => unhex c.toNat).foldl (stepR 4 8) (o, 0, 0)).2.1 = 0))
  | [], o, _ => by simp [unpair]
  | [a], o, h => by
    simp only [List.all_cons, List.all_nil, Bool.and_true] at h
    simp only [List.map_cons, List.map_nil, List.foldl_cons, List.foldl_nil, s48_0 _ _ (isHex_lt h), unpair]
    simp
  | a :: b :: t, o, h => by
    simp only [List.all_cons, Bool.and_eq_true] at h
    obtain ⟨g1, g2⟩ := unp_fold t (o ++ [unhex a.toNat * 16 + unhex b.toNat]) h.2.2
    simp only [List.map_cons, List.foldl_cons, s48_0 _ _ (isHex_lt h.1), s48_4 _ _ _ (isHex_lt h.1) (isHex_lt h.2.1), unpair]
    refine ⟨by rw [g1]; simp, ?_⟩
    rw [← g2]
    simp only [List.length_cons]
    omega
theorem unp_of_fold (t : List UInt8) (h : t.all isHex = true) : (foldR 4 8 (t.map fun c => unhex c.toNat)).1.map UInt8.ofNat = unpair t ∧
    ((t.length % 2 = 0) ↔ ((foldR 4 8 (t.map fun c => unhex c.toNat)).2.2 < 4 ∧ (foldR 4 8 (t.map fun c => unhex c.toNat)).2.1 = 0)) := by
  have := unp_fold t [] h
  simpa [foldR] using this
theorem isPairs_fold (t : List UInt8) (hl : t.length ≤ 800) (h : t.all isHex = true) : isPairs t = true ↔ ((foldR 4 8 (t.map fun c => unhex c.toNat)).2.2 < 4 ∧ (foldR 4 8 (t.map fun c => unhex c.toNat)).2.1 = 0) := by
  rw [← (unp_of_fold t h).2, isPairs]; simp [hl, h]
theorem isPairs_all {t : List UInt8} (h : isPairs t = true) : t.all isHex = true := by
  simp only [isPairs, Bool.and_eq_true] at h; exact h.2
end Go.Proofs.Ytfmhpeeecejpbaa
