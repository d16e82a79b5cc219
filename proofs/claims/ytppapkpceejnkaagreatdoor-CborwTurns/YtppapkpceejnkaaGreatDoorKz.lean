/- How long plain items are: no longer than what was read (plain mathematics). -/
import Derived.Test.YtppapkpceejnkaaGreatDoorKs
namespace Go.Proofs.YtppapkpceejnkaaGreatDoor
open Go.RowKit
open Go.Lib (decDigits nDigits)

theorem hext_fit {a n : Nat} (h : a < 256 ^ n) (hn : n = 1 ∨ n = 2 ∨ n = 4 ∨ n = 8) : hext a ≤ n := by
  unfold hext
  rcases hn with rfl | rfl | rfl | rfl
  all_goals repeat' split
  all_goals omega
theorem rdL_size {l : List UInt8} {j k a : Nat} {r : List UInt8} (h : rdL l = .ok (j, k, a, r)) : ∃ n, nby k = some n ∧ 1 + n + r.length = l.length ∧ (k ≠ 31 → hext a ≤ n) := by
  cases l with
  | nil => cases h
  | cons c s =>
    rw [rdL_cons] at h
    cases hn : nby (c.toNat % 32) with
    | none => rw [hn] at h; cases h
    | some n =>
      rw [hn] at h
      simp only at h
      split at h
      · cases h
      · rename_i hs
        cases h
        refine ⟨n, hn, by rw [List.length_cons, List.length_drop]; omega, fun h31 => ?_⟩
        rw [argW]
        split
        · rename_i h24
          rw [hext, if_pos h24]
          exact Nat.zero_le _
        · rename_i h24
          have hv := valQ_lt (s.take n)
          rw [List.length_take, Nat.min_eq_left (by omega)] at hv
          refine hext_fit hv ?_
          unfold nby at hn
          repeat' split at hn
          all_goals first
            | omega
            | (cases hn; simp; done)
            | (cases hn; done)
theorem chunks_size {m : Nat} : ∀ (n : Nat) (l t q : List UInt8), chunksF n m l = .ok (t, q) → t.length + q.length + 1 ≤ l.length ∧ (t.length ≠ 0 → t.length + q.length + 2 ≤ l.length)
  | 0, _, _, _, h => by cases h
  | n + 1, l, t, q, h => by
    rw [chunksF] at h
    split at h
    · rename_i he
      cases h
      cases l with
      | nil => cases he
      | cons c s =>
        simp only [List.tail_cons, List.length_cons, List.length_nil]
        exact ⟨by omega, fun h => absurd rfl h⟩
    · cases hr : rdL l with
      | error e => rw [hr] at h; cases h
      | ok y =>
        obtain ⟨j, k, a, s⟩ := y
        have hl := rdL_len hr
        rw [hr] at h
        simp only at h
        split at h
        · cases h
        split at h
        · cases h
        cases hc : chunksF n m (s.drop a) with
        | error e => rw [hc] at h; cases h
        | ok z =>
          obtain ⟨t', q'⟩ := z
          have ih := (chunks_size n _ _ _ hc).1
          rw [hc] at h
          cases h
          rw [List.length_drop] at ih
          rw [List.length_append, List.length_take]
          omega
/-- How many lists of 256 nodes and more. -/
def exF : Fo → Nat
  | .nil => 0
  | .cons _ k r => (if 256 ≤ k.len then 1 else 0) + exF k + exF r
theorem exF_cnt : ∀ f : Fo, 256 * exF f + f.len ≤ f.cnt
  | .nil => Nat.le_refl _
  | .cons h k r => by
    have h1 := exF_cnt k
    have h2 := exF_cnt r
    simp only [exF, Fo.len, Fo.cnt]
    split <;> omega
theorem num_own (n : Bool) (a : Nat) (ha : a < 18446744073709551616) : toI (numH n a).neg (numH n a).dig.data.toList (numH n a).exp = some (n && decide (0 < a), a) := by
  obtain ⟨m, b, e, h1, h2, h3, _⟩ := whole (n := n) ha
  rw [numH, h1]
  show toI m (List.toArray (decDigits b)).toList e = _
  rw [h3, h2]
theorem num_top : toI (numH true 18446744073709551616).neg (numH true 18446744073709551616).dig.data.toList (numH true 18446744073709551616).exp = none := by kernel_rfl
theorem less_none {c : Option Nat} {p o : Bool} : less c p o = none ↔ c = none := by
  unfold less
  split <;> cases c <;> simp
theorem list_cnt {F : Lf} {tg : Nat → Hd} : ∀ (n d a : Nat) (p o : Bool) (l : List UInt8) (f : Fo) (r : List UInt8), (p = true → o = true → 0 < a) → listF F tg n d (some a) p o l = .ok (f, r) → CntOk p o a f.len
  | 0, _, _, _, _, _, _, _, _, h => by rw [listF] at h; cases h
  | n + 1, d, a, p, o, l, f, r, hpo, h => by
    rw [listF] at h
    split at h
    · rename_i h0
      cases h
      have : a = 0 := by simpa using h0
      unfold CntOk
      cases p <;> cases o <;> simp_all [Fo.len]
    rename_i h0
    have ha : a ≠ 0 := by simpa using h0
    split at h
    · rename_i h1; cases h1.1
    cases hc : itemF F tg n d l with
    | error e => rw [hc] at h; cases h
    | ok z =>
      obtain ⟨⟨h0, f0⟩, s⟩ := z
      rw [hc] at h
      simp only at h
      have hls : ∃ a', less (some a) p o = some a' ∧ (p = false → a' = a - 1) ∧ (p = true → o = true → a' = a - 1) ∧ (p = true → o = false → a' = a) := by
        unfold less
        cases p <;> cases o <;> simp
      obtain ⟨a', e1, e2, e3, e4⟩ := hls
      rw [e1] at h
      cases hg : listF F tg n d (some a') p (!o) s with
      | error e => rw [hg] at h; cases h
      | ok y =>
        obtain ⟨g, q0⟩ := y
        have ih := list_cnt n d a' p (!o) s g q0 (fun hp ho => by
          have : o = false := by cases o <;> simp_all
          rw [e4 hp this]; omega) hg
        rw [hg] at h
        cases h
        unfold CntOk at ih ⊢
        rw [Fo.len]
        cases p <;> cases o <;> simp_all <;> omega
theorem own_len_3 {n : Bool} {a : Nat} (ha : a < 18446744073709551616) (x : Nat) : (ownB (numH n a) x).length = 1 + hext (if n && decide (0 < a) then a - 1 else a) := by
  have h := num_own n a ha
  have hk : (numH n a).kind = 3 := rfl
  rw [ownB, if_neg (by rw [hk]; decide), if_neg (by rw [hk]; decide), if_pos hk, h]
  show (if (n && decide (0 < a)) = true then headL 1 (a - 1) else headL 0 a).length = _
  split <;> rw [headL_len]
theorem str_own (j : Nat) (t : List UInt8) (x : Nat) : (ownB (strH j t) x).length = 1 + hext t.length + t.length := by
  have hs : (strH j t).s.size = t.length := by show (List.toArray t).size = _; simp
  have ht : (strH j t).s.data.toList = t := by show (List.toArray t).toList = _; simp
  by_cases h : j = 2
  · have hk : (strH j t).kind = 6 := by rw [strH, if_pos h]
    rw [ownB, if_neg (by rw [hk]; decide), if_neg (by rw [hk]; decide), if_neg (by rw [hk]; decide), if_neg (by rw [hk]; decide), if_neg (by rw [hk]; decide), if_pos hk, List.length_append, headL_len, hs, ht]
  · have hk : (strH j t).kind = 5 := by rw [strH, if_neg h]
    rw [ownB, if_neg (by rw [hk]; decide), if_neg (by rw [hk]; decide), if_neg (by rw [hk]; decide), if_neg (by rw [hk]; decide), if_pos hk, List.length_append, headL_len, hs, ht]
theorem flo_own (w : Int) (a x : Nat) : (ownB (floH w a) x).length = 1 + w.toNat / 8 := by
  have hk : (floH w a).kind = 4 := rfl
  rw [ownB, if_neg (by rw [hk]; decide), if_neg (by rw [hk]; decide), if_neg (by rw [hk]; decide), if_pos hk, List.length_cons, bigL_len]
  show w.toNat / 8 + 1 = _
  omega
theorem oth_own {k a n x : Nat} {h : Hd} (hn : nby k = some n) (hx : hext a ≤ n) (ho : othH k a = some h) : (ownB h x).length ≤ 1 + n := by
  unfold othH at ho
  split at ho
  · cases ho
  split at ho
  · rename_i h1 h2
    cases ho
    have hk : (boolH (k == 21)).kind = 2 := rfl
    rw [ownB, if_neg (by rw [hk]; decide), if_pos hk, headL_len]
    split <;> (show 1 + 0 ≤ _; omega)
  split at ho
  · cases ho
    show (headL 7 22).length ≤ _
    rw [headL_len]
    show 1 + 0 ≤ _; omega
  split at ho
  · rename_i h1
    cases ho
    have hk : k = 25 ∨ k = 26 ∨ k = 27 := by omega
    rcases hk with rfl | rfl | rfl
    · cases hn
      have := flo_own 16 a x
      show (ownB (floH 16 a) x).length ≤ _
      rw [this]
      decide
    · cases hn
      have := flo_own 32 a x
      show (ownB (floH 32 a) x).length ≤ _
      rw [this]
      decide
    · cases hn
      have := flo_own 64 a x
      show (ownB (floH 64 a) x).length ≤ _
      rw [this]
      decide
  · cases ho
    show (headL 7 a).length ≤ _
    rw [headL_len]
    omega
theorem rd_fit {l : List UInt8} {j k a : Nat} {r : List UInt8} (h : rdL l = .ok (j, k, a, r)) : a < 18446744073709551616 := (rdL_lt h).2.2.1
theorem both_size : ∀ n, (∀ (d : Nat) (l : List UInt8) (h : Hd) (k : Fo) (r : List UInt8), itemF FC tgC n d l = .ok ((h, k), r) → Gc h k → AllG Gc k → (ownB h k.len).length + (plB k).length + r.length ≤ l.length + (if 256 ≤ k.len then 1 else 0) + exF k) ∧
    (∀ (d : Nat) (c : Option Nat) (p o : Bool) (l : List UInt8) (f : Fo) (r : List UInt8), listF FC tgC n d c p o l = .ok (f, r) → AllG Gc f → (plB f).length + r.length + (if c = none then 1 else 0) ≤ l.length + exF f)
  | 0 => ⟨fun _ _ _ _ _ h => (by rw [itemF] at h; cases h), fun _ _ _ _ _ _ _ h => (by rw [listF] at h; cases h)⟩
  | n + 1 => by
    have ih := both_size n
    refine ⟨fun d l h k r hi hg hG => ?_, fun d c p o l f r hi hG => ?_⟩
    · rw [itemF] at hi
      split at hi
      · cases hi
      cases hr : rdL l with
      | error e => rw [hr] at hi; cases hi
      | ok y =>
        obtain ⟨j, kk, a, s⟩ := y
        obtain ⟨nb, hn, hsz, hx⟩ := rdL_size hr
        have ha := rd_fit hr
        rw [hr] at hi
        simp only at hi
        have e0 : (plB Fo.nil).length = 0 := rfl
        have e1 : exF Fo.nil = 0 := rfl
        have e2 : Fo.nil.len = 0 := rfl
        split at hi
        · cases hi
        rename_i hno
        split at hi
        · cases hi
          have h31 := hx (by omega)
          have ho : (ownB (FC.num a) Fo.nil.len).length = 1 + hext a := own_len_3 (n := false) ha _
          rw [ho, e0, e2]
          simp only [if_neg (show ¬ 256 ≤ 0 by decide)]
          omega
        split at hi
        · cases hi
          have h31 := hx (by omega)
          have hlt : a + 1 < 18446744073709551616 := by
            rcases Nat.lt_or_ge (a + 1) 18446744073709551616 with h1 | h1
            · exact h1
            · have : a + 1 = 18446744073709551616 := by omega
              obtain ⟨b, m, hb⟩ := hg.2.2.2.2 rfl
              have h5 : toI (numH true (a + 1)).neg (numH true (a + 1)).dig.data.toList (numH true (a + 1)).exp = some (b, m) := hb
              rw [this, num_top] at h5
              cases h5
          have ho : (ownB (FC.neg a) Fo.nil.len).length = 1 + hext a := (own_len_3 (n := true) hlt _).trans (by simp)
          rw [ho, e0, e2]
          simp only [if_neg (show ¬ 256 ≤ 0 by decide)]
          omega
        split at hi
        · split at hi
          · cases hc : chunksF (s.length + 1) j s with
            | error e => rw [hc] at hi; cases hi
            | ok z =>
              obtain ⟨t0, q0⟩ := z
              have hc2 := chunks_size _ _ _ _ hc
              rw [hc] at hi
              cases hi
              have ho : (ownB (FC.str j t0) Fo.nil.len).length = 1 + hext t0.length + t0.length := str_own j t0 _
              have h400 : t0.length ≤ 400 := by
                have hs : (strH j t0).s.size = t0.length := by show (List.toArray t0).size = _; simp
                rw [← hs]
                have hok : okN (strH j t0) .nil = true := hg.2.1
                by_cases hj : j = 2
                · exact (is_6 (show (strH j t0).kind = 6 by rw [strH, if_pos hj]) hok).2
                · exact (is_5 (show (strH j t0).kind = 5 by rw [strH, if_neg hj]) hok).2
              have hx0 : hext t0.length ≤ 2 ∧ (t0.length = 0 → hext t0.length = 0) := by
                unfold hext
                repeat' split
                all_goals omega
              rw [ho, e0, e2]
              simp only [if_neg (show ¬ 256 ≤ 0 by decide)]
              omega
          · rename_i hk31
            split at hi
            · cases hi
            · rename_i hle
              cases hi
              have h31 := hx hk31
              have ho : (ownB (FC.str j (s.take a)) Fo.nil.len).length = 1 + hext (s.take a).length + (s.take a).length := str_own j _ _
              rw [ho, e0, e2, List.length_take, Nat.min_eq_left (by omega), List.length_drop]
              simp only [if_neg (show ¬ 256 ≤ 0 by decide)]
              omega
        split at hi
        · cases hc : listF FC tgC n (d + 1) (if kk = 31 then none else some a) false false s with
          | error e => rw [hc] at hi; cases hi
          | ok z =>
            obtain ⟨f, q0⟩ := z
            rw [hc] at hi
            cases hi
            have h2 := ih.2 _ _ _ _ _ _ _ hc hG
            have hl : k.len ≤ 300 := hg.2.2.2.1
            have ho : (ownB arrC k.len).length = 1 + hext k.len := headL_len 4 k.len
            rw [ho]
            by_cases h31 : kk = 31
            · rw [if_pos h31, if_pos rfl] at h2
              have hx0 : hext k.len ≤ 1 + (if 256 ≤ k.len then 1 else 0) := by
                unfold hext
                repeat' split
                all_goals omega
              omega
            · rw [if_neg h31] at hc
              have hcn : k.len = a := list_cnt _ _ _ _ _ _ _ _ (fun h => by cases h) hc
              have := hx h31
              rw [hcn]
              omega
        split at hi
        · cases hc : listF FC tgC n (d + 1) (if kk = 31 then none else some a) true false s with
          | error e => rw [hc] at hi; cases hi
          | ok z =>
            obtain ⟨f, q0⟩ := z
            rw [hc] at hi
            cases hi
            have h2 := ih.2 _ _ _ _ _ _ _ hc hG
            have hl : k.len ≤ 300 := hg.2.2.2.1
            have ho : (ownB mapC k.len).length = 1 + hext (k.len / 2) := headL_len 5 (k.len / 2)
            rw [ho]
            by_cases h31 : kk = 31
            · rw [if_pos h31, if_pos rfl] at h2
              have hx0 : hext (k.len / 2) ≤ 1 := by
                unfold hext
                repeat' split
                all_goals omega
              omega
            · rw [if_neg h31] at hc
              have hcn : k.len + 0 = 2 * a := list_cnt _ _ _ _ _ _ _ _ (fun _ h => by cases h) hc
              have := hx h31
              rw [show k.len / 2 = a by omega]
              omega
        split at hi
        · cases hc : itemF FC tgC n (d + 1) s with
          | error e => rw [hc] at hi; cases hi
          | ok z =>
            obtain ⟨⟨h0, f⟩, q0⟩ := z
            rw [hc] at hi
            cases hi
            have h2 := ih.1 _ _ _ _ _ hc hG.1 hG.2.1
            have h31 := hx (by omega)
            have ho : (ownB (tgC a) (Fo.cons h0 f .nil).len).length = 1 + hext a := headL_len 6 a
            have hp : (plB (Fo.cons h0 f .nil)).length = (ownB h0 f.len).length + (plB f).length := by rw [plB, plB, List.append_nil, List.length_append]
            have hxx : exF (Fo.cons h0 f .nil) = (if 256 ≤ f.len then 1 else 0) + exF f := by rw [exF, exF, Nat.add_zero]
            rw [ho, hp, hxx]
            omega
        cases ho : FC.oth kk a with
        | none => rw [ho] at hi; cases hi
        | some h0 =>
          rw [ho] at hi
          cases hi
          have h31 := hx (by
            intro e
            rw [e, hFC] at ho
            cases ho)
          have := oth_own (x := Fo.nil.len) hn h31 ho
          rw [e0]
          omega
    · rw [listF] at hi
      split at hi
      · rename_i h0
        cases hi
        rw [h0, if_neg (by simp), plB, exF, List.length_nil]
        omega
      split at hi
      · rename_i h0 h1
        cases hi
        cases l with
        | nil => cases h1.2.1
        | cons c' s =>
          rw [if_pos h1.1, plB, exF, List.length_nil, List.tail_cons, List.length_cons]
          omega
      cases hc : itemF FC tgC n d l with
      | error e => rw [hc] at hi; cases hi
      | ok z =>
        obtain ⟨⟨h0, f0⟩, s⟩ := z
        rw [hc] at hi
        simp only at hi
        cases hg : listF FC tgC n d (less c p o) p (!o) s with
        | error e => rw [hg] at hi; cases hi
        | ok y =>
          obtain ⟨g, q0⟩ := y
          rw [hg] at hi
          cases hi
          have i1 := ih.1 _ _ _ _ _ hc hG.1 hG.2.1
          have i2 := ih.2 _ _ _ _ _ _ _ hg hG.2.2
          have hnn : (less c p o = none) = (c = none) := propext less_none
          simp only [hnn] at i2
          rw [plB, exF, List.length_append, List.length_append]
          omega
/-- What is read, and written, has no more bytes, but for one. -/
theorem size_back {l : List UInt8} {h : Hd} {k : Fo} (hr : itC 1 l = .ok ((h, k), [])) (e : chk 2 h k = 0) (hu : AllG Gu (.cons h k .nil)) : (itB h k).length ≤ l.length ∨ (256 < 1 + k.cnt ∧ (itB h k).length = l.length + 1) := by
  obtain ⟨h1, h2, _⟩ := chk_gc e hu
  have h3 := (both_size _).1 _ _ _ _ _ hr h1.1 h1.2.1
  have h4 := exF_cnt (.cons h k .nil)
  simp only [exF, Fo.len, Fo.cnt] at h4
  rw [itB_eq, List.length_append]
  rw [List.length_nil] at h3
  by_cases hk : 256 ≤ k.len
  · rw [if_pos hk] at h3 h4
    omega
  · rw [if_neg hk] at h3 h4
    omega
end Go.Proofs.YtppapkpceejnkaaGreatDoor
