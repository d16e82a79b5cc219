/- Items of CBOR: what they are (plain mathematics; it names no function of the program). Chunks, items and lists are taken whole, whatever is behind them; fewer bytes ask for more (plain mathematics). Items and lists are taken whole (plain mathematics). Enough steps; how deep; what a head is read as (plain mathematics). Heads as they are made; tags, lists, chunks (plain mathematics). Open lists, arrays, chunks (plain mathematics). Items without steps; which errors there are (plain mathematics). How many nodes an item has: fewer than bytes; which heads (plain mathematics). Lists that memory can hold; bytes in parts (plain mathematics). -/
import Derived.Test.YtppapkpceejnkaaGreatDoorMa
import Derived.Test.YtppapkpceejnkaaGreatDoorZa
namespace Go.Proofs.YtppapkpceejnkaaGreatDoor
open Go.RowKit

abbrev Res (α : Type) := Except Nat (α × List UInt8)
/-- The argument of an info and the bytes behind it. -/
def argW (k : Nat) (l : List UInt8) : Nat := if k < 24 then k else valL l
/-- The head that bytes begin with: the major, the info, the argument, what is behind it. -/
def rdL (l : List UInt8) : Except Nat (Nat × Nat × Nat × List UInt8) :=
  match l with
  | [] => .error 100
  | c :: r => match nby (c.toNat % 32) with
    | none => .error 101
    | some n => if r.length < n then .error 100 else .ok (c.toNat / 32, c.toNat % 32, argW (c.toNat % 32) (r.take n), r.drop n)
/-- Is the next byte FF? -/
def endsL : List UInt8 → Bool
  | [] => false
  | c :: _ => c == 255
def hE (e : Nat) : Nat := if e = 100 then 100 else 110
/-- The bytes of chunks, up to FF. -/
def chunksF : Nat → Nat → List UInt8 → Res (List UInt8)
  | 0, _, _ => .error 0
  | n + 1, m, l => if endsL l then .ok ([], l.tail) else
    match rdL l with
    | .error e => .error (hE e)
    | .ok (j, k, a, r) => if j ≠ m ∨ k = 31 then .error 110 else if r.length < a then .error 100 else
      match chunksF n m (r.drop a) with
      | .error e => .error e
      | .ok (t, q) => .ok (r.take a ++ t, q)
/-- The nodes of majors that have no list. -/
structure Lf where
  num : Nat → Hd
  neg : Nat → Hd
  str : Nat → List UInt8 → Hd
  oth : Nat → Nat → Option Hd
def arrC : Hd := ⟨7, false, false, ⟨#[]⟩, 0, 0, 0, ⟨#[]⟩⟩
def mapC : Hd := ⟨8, false, false, ⟨#[]⟩, 0, 0, 0, ⟨#[]⟩⟩
/-- How many more, when one node more was read. -/
def less (c : Option Nat) (p o : Bool) : Option Nat := if p = false ∨ o = true then c.map (· - 1) else c
mutual
/-- The item that bytes begin with, so deep. -/
def itemF (F : Lf) (tg : Nat → Hd) : Nat → Nat → List UInt8 → Res (Hd × Fo)
  | 0, _, _ => .error 0
  | n + 1, d, l => if 16 < d ∧ l ≠ [] then .error 60 else
    match rdL l with
    | .error e => .error (hE e)
    | .ok (j, k, a, r) =>
      if k = 31 ∧ (j < 2 ∨ j = 6) then .error 110
      else if j = 0 then .ok ((F.num a, .nil), r)
      else if j = 1 then .ok ((F.neg a, .nil), r)
      else if j = 2 ∨ j = 3 then
        (if k = 31 then (match chunksF (r.length + 1) j r with
          | .error e => .error e
          | .ok (t, q) => .ok ((F.str j t, .nil), q))
        else if r.length < a then .error 100 else .ok ((F.str j (r.take a), .nil), r.drop a))
      else if j = 4 then (match listF F tg n (d + 1) (if k = 31 then none else some a) false false r with
        | .error e => .error e
        | .ok (f, q) => .ok ((arrC, f), q))
      else if j = 5 then (match listF F tg n (d + 1) (if k = 31 then none else some a) true false r with
        | .error e => .error e
        | .ok (f, q) => .ok ((mapC, f), q))
      else if j = 6 then (match itemF F tg n (d + 1) r with
        | .error e => .error e
        | .ok ((h, f), q) => .ok ((tg a, .cons h f .nil), q))
      else (match F.oth k a with
        | none => .error 110
        | some h => .ok ((h, .nil), r))
/-- Items of a list: c: how many more (of pairs, if p; none: up to FF); o: is a value next? -/
def listF (F : Lf) (tg : Nat → Hd) : Nat → Nat → Option Nat → Bool → Bool → List UInt8 → Res Fo
  | 0, _, _, _, _, _ => .error 0
  | n + 1, d, c, p, o, l => if c = some 0 then .ok (.nil, l)
    else if c = none ∧ endsL l = true ∧ (p = false ∨ o = false) then .ok (.nil, l.tail)
    else match itemF F tg n d l with
      | .error e => .error e
      | .ok ((h, f), r) => (match listF F tg n d (less c p o) p (!o) r with
        | .error e => .error e
        | .ok (g, q) => .ok (.cons h f g, q))
end

/-- Bytes that a reader takes whole, whatever is behind them; fewer ask for more. -/
def Own {α : Type} (f : List UInt8 → Res α) (p : List UInt8) (x : α) : Prop := (∀ t, f (p ++ t) = .ok (x, t)) ∧ ∀ q, q < p.length → f (p.take q) = .error 100

theorem rdL_cons (c : UInt8) (r : List UInt8) : rdL (c :: r) = match nby (c.toNat % 32) with
    | none => .error 101
    | some n => if r.length < n then .error 100 else .ok (c.toNat / 32, c.toNat % 32, argW (c.toNat % 32) (r.take n), r.drop n) := rfl
theorem rdL_own {l : List UInt8} {j k a : Nat} {r : List UInt8} (h : rdL l = .ok (j, k, a, r)) :
    ∃ p, l = p ++ r ∧ 0 < p.length ∧ (∀ t, rdL (p ++ t) = .ok (j, k, a, t)) ∧ ∀ q, q < p.length → rdL (p.take q) = .error 100 := by
  cases l with
  | nil => cases h
  | cons c s =>
    rw [rdL_cons] at h
    cases hn : nby (c.toNat % 32) with
    | none => rw [hn] at h; cases h
    | some n =>
      rw [hn] at h
      simp only at h
      split at h
      · cases h
      · rename_i hl
        simp only [Except.ok.injEq, Prod.mk.injEq] at h
        obtain ⟨rfl, rfl, rfl, rfl⟩ := h
        have hlen : (s.take n).length = n := by rw [List.length_take]; omega
        refine ⟨c :: s.take n, by rw [List.cons_append, List.take_append_drop], by simp, fun t => ?_, fun q hq => ?_⟩
        · show rdL (c :: (s.take n ++ t)) = _
          simp only [rdL, hn]
          rw [if_neg (by rw [List.length_append]; omega), List.take_left' hlen, List.drop_left' hlen]
        · cases q with
          | zero => rfl
          | succ q =>
            rw [List.length_cons] at hq
            show rdL (c :: (s.take n).take q) = _
            simp only [rdL, hn]
            rw [if_pos (by rw [List.length_take]; omega)]
theorem take_ge {α : Type} (p s : List α) {q : Nat} (h : p.length ≤ q) : (p ++ s).take q = p ++ s.take (q - p.length) := by
  rw [List.take_append, List.take_of_length_le h]
theorem take_lt {α : Type} (p s : List α) {q : Nat} (h : q ≤ p.length) : (p ++ s).take q = p.take q := by
  rw [List.take_append_of_le_length h]
theorem ends_app {l : List UInt8} (t : List UInt8) (h : l ≠ []) : endsL (l ++ t) = endsL l := by
  cases l with
  | nil => exact absurd rfl h
  | cons c r => rfl
theorem ends_tail {l : List UInt8} (h : endsL l = true) : l = 255 :: l.tail := by
  cases l with
  | nil => cases h
  | cons c r =>
    have : c = 255 := by simpa [endsL] using h
    rw [this]; rfl
end Go.Proofs.YtppapkpceejnkaaGreatDoor
namespace Go.Proofs.YtppapkpceejnkaaGreatDoor
open Go.RowKit

theorem rdL_len {l : List UInt8} {j k a : Nat} {r : List UInt8} (h : rdL l = .ok (j, k, a, r)) : r.length < l.length := by
  obtain ⟨p, rfl, hp, _, _⟩ := rdL_own h
  rw [List.length_append]; omega
theorem chunks_enough (m : Nat) : ∀ (n n' : Nat) (l : List UInt8), l.length < n → l.length < n' → chunksF n m l = chunksF n' m l
  | 0, _, _, h, _ => by omega
  | _, 0, _, _, h => by omega
  | n + 1, n' + 1, l, h, h' => by
    unfold chunksF
    split
    · rfl
    · cases hr : rdL l with
      | error e => rfl
      | ok y =>
        obtain ⟨j, k, a, r⟩ := y
        have hl := rdL_len hr
        simp only
        split
        · rfl
        · split
          · rfl
          · rw [chunks_enough m n n' (r.drop a) (by rw [List.length_drop]; omega) (by rw [List.length_drop]; omega)]
theorem chunks_own (m : Nat) : ∀ (n : Nat) (l t q : List UInt8), chunksF n m l = .ok (t, q) → ∃ P, l = P ++ q ∧ ∀ n', n ≤ n' → Own (chunksF n' m) P t
  | 0, _, _, _, h => by cases h
  | n + 1, l, t, q, h => by
    unfold chunksF at h
    split at h
    · rename_i he
      simp only [Except.ok.injEq, Prod.mk.injEq] at h
      obtain ⟨rfl, rfl⟩ := h
      refine ⟨[255], ends_tail he, fun n' hn => ?_⟩
      obtain ⟨n', rfl⟩ : ∃ k, n' = k + 1 := ⟨n' - 1, by omega⟩
      refine ⟨fun t => ?_, fun q hq => ?_⟩
      · show chunksF (n' + 1) m (255 :: t) = _
        rw [chunksF, if_pos (show endsL (255 :: t) = true from rfl)]
        rfl
      · have : q = 0 := by simpa using hq
        subst this
        show chunksF (n' + 1) m [] = _
        rw [chunksF, if_neg (by simp [endsL])]
        rfl
    · rename_i he
      cases hr : rdL l with
      | error e => rw [hr] at h; cases h
      | ok y =>
        obtain ⟨j, k, a, r⟩ := y
        rw [hr] at h
        simp only at h
        split at h
        · cases h
        · rename_i hm
          split at h
          · cases h
          · rename_i ha
            cases hc : chunksF n m (r.drop a) with
            | error e => rw [hc] at h; cases h
            | ok z =>
              obtain ⟨t', q'⟩ := z
              rw [hc] at h
              simp only [Except.ok.injEq, Prod.mk.injEq] at h
              obtain ⟨rfl, rfl⟩ := h
              obtain ⟨p, rfl, hp, hp1, hp2⟩ := rdL_own hr
              obtain ⟨P, hP, hO⟩ := chunks_own m n _ _ _ hc
              have hra : (r.take a).length = a := by rw [List.length_take]; omega
              have hne : p ≠ [] := fun e => by rw [e] at hp; exact absurd hp (by decide)
              have hep : endsL p = false := by
                rw [ends_app r hne] at he
                simpa using he
              refine ⟨p ++ (r.take a ++ P), by rw [List.append_assoc, List.append_assoc, ← hP, List.take_append_drop], fun n' hn => ?_⟩
              obtain ⟨n', rfl⟩ : ∃ k, n' = k + 1 := ⟨n' - 1, by omega⟩
              obtain ⟨o1, o2⟩ := hO n' (by omega)
              refine ⟨fun t => ?_, fun q hq => ?_⟩
              · rw [List.append_assoc, List.append_assoc, chunksF, if_neg (by rw [ends_app _ hne, hep]; simp), hp1]
                simp only
                rw [if_neg hm, if_neg (by rw [List.length_append, hra]; omega), List.drop_left' hra, List.take_left' hra, o1]
              · rcases Nat.lt_or_ge q p.length with h1 | h1
                · rw [take_lt _ _ (by omega), chunksF]
                  have h2 : endsL (p.take q) = false := by
                    cases q with
                    | zero => rfl
                    | succ q =>
                      cases p with
                      | nil => exact absurd rfl hne
                      | cons c s => exact hep
                  rw [if_neg (by rw [h2]; simp), hp2 q h1]
                  rfl
                · rw [take_ge _ _ h1, chunksF, if_neg (by rw [ends_app _ hne, hep]; simp), hp1]
                  simp only
                  rw [if_neg hm]
                  obtain ⟨q', hq'⟩ : ∃ q', q' = q - p.length := ⟨_, rfl⟩
                  rw [← hq']
                  rcases Nat.lt_or_ge q' a with h2 | h2
                  · rw [if_pos (by rw [take_lt _ _ (by omega), List.length_take]; omega)]
                  · rw [take_ge _ _ (by omega), hra, if_neg (by rw [List.length_append, hra]; omega), List.drop_left' hra, o2 (q' - a) (by rw [List.length_append, List.length_append, hra] at hq; omega)]
end Go.Proofs.YtppapkpceejnkaaGreatDoor
namespace Go.Proofs.YtppapkpceejnkaaGreatDoor
open Go.RowKit

def ItemOwn (F : Lf) (tg : Nat → Hd) (n : Nat) : Prop := ∀ (d : Nat) (l : List UInt8) (x : Hd × Fo) (r : List UInt8), itemF F tg n d l = .ok (x, r) → ∃ p, l = p ++ r ∧ 0 < p.length ∧ ∀ n', n < n' → Own (itemF F tg n' d) p x
def ListOwn (F : Lf) (tg : Nat → Hd) (n : Nat) : Prop := ∀ (d : Nat) (c : Option Nat) (p o : Bool) (l : List UInt8) (f : Fo) (r : List UInt8), listF F tg n d c p o l = .ok (f, r) → ∃ P, l = P ++ r ∧ ∀ n', n < n' → Own (listF F tg n' d c p o) P f
/-- What is read behind a head. -/
theorem own_behind {F : Lf} {tg : Nat → Hd} {n' d : Nat} {p P : List UInt8} {x : Hd × Fo} (hd : d ≤ 16)
    (hp2 : ∀ q, q < p.length → rdL (p.take q) = .error 100)
    (h1 : ∀ t, itemF F tg (n' + 1) d (p ++ (P ++ t)) = .ok (x, t)) (h2 : ∀ q, q < P.length → itemF F tg (n' + 1) d (p ++ P.take q) = .error 100) : Own (itemF F tg (n' + 1) d) (p ++ P) x := by
  refine ⟨fun t => by rw [List.append_assoc]; exact h1 t, fun q hq => ?_⟩
  rcases Nat.lt_or_ge q p.length with h | h
  · rw [take_lt _ _ (by omega), itemF, if_neg (by omega), hp2 q h]
    rfl
  · rw [take_ge _ _ h]
    exact h2 _ (by rw [List.length_append] at hq; omega)
theorem item_own (F : Lf) (tg : Nat → Hd) {n : Nat} (hI : ItemOwn F tg n) (hL : ListOwn F tg n) : ItemOwn F tg (n + 1) := by
  intro d l x r h
  rw [itemF] at h
  split at h
  · cases h
  · rename_i hd0
    cases hr : rdL l with
    | error e => rw [hr] at h; cases h
    | ok y =>
      obtain ⟨j, k, a, s⟩ := y
      rw [hr] at h
      simp only at h
      obtain ⟨p, rfl, hp, hp1, hp2⟩ := rdL_own hr
      have hd : d ≤ 16 := by
        apply Decidable.byContradiction
        intro hn
        refine hd0 ⟨by omega, fun e => ?_⟩
        have := congrArg List.length e
        rw [List.length_append, List.length_nil] at this
        omega
      have open1 : ∀ (n' : Nat) (t : List UInt8), itemF F tg (n' + 1) d (p ++ t) = (if k = 31 ∧ (j < 2 ∨ j = 6) then .error 110
          else if j = 0 then .ok ((F.num a, .nil), t)
          else if j = 1 then .ok ((F.neg a, .nil), t)
          else if j = 2 ∨ j = 3 then
            (if k = 31 then (match chunksF (t.length + 1) j t with
              | .error e => .error e
              | .ok (t, q) => .ok ((F.str j t, .nil), q))
            else if t.length < a then .error 100 else .ok ((F.str j (t.take a), .nil), t.drop a))
          else if j = 4 then (match listF F tg n' (d + 1) (if k = 31 then none else some a) false false t with
            | .error e => .error e
            | .ok (f, q) => .ok ((arrC, f), q))
          else if j = 5 then (match listF F tg n' (d + 1) (if k = 31 then none else some a) true false t with
            | .error e => .error e
            | .ok (f, q) => .ok ((mapC, f), q))
          else if j = 6 then (match itemF F tg n' (d + 1) t with
            | .error e => .error e
            | .ok ((h, f), q) => .ok ((tg a, .cons h f .nil), q))
          else (match F.oth k a with
            | none => .error 110
            | some h => .ok ((h, .nil), t))) := fun n' t => by
        rw [itemF, if_neg (by omega), hp1]
        all_goals rfl
      -- what has nothing behind its head
      have leaf : ∀ (y : Hd × Fo), (∀ n' t, itemF F tg (n' + 1) d (p ++ t) = .ok (y, t)) → ∀ n', n + 1 < n' → Own (itemF F tg n' d) p y := fun y hy n' hn => by
        obtain ⟨n', rfl⟩ : ∃ k, n' = k + 1 := ⟨n' - 1, by omega⟩
        have := own_behind (F := F) (tg := tg) (n' := n') (P := []) hd hp2 (fun t => hy n' t) (fun q hq => absurd hq (by simp))
        rwa [List.append_nil] at this
      split at h
      · cases h
      rename_i c1
      split at h
      · rename_i c2
        cases h
        exact ⟨p, rfl, hp, leaf _ (fun n' t => by rw [open1, if_neg c1, if_pos c2])⟩
      rename_i c2
      split at h
      · rename_i c3
        cases h
        exact ⟨p, rfl, hp, leaf _ (fun n' t => by rw [open1, if_neg c1, if_neg c2, if_pos c3])⟩
      rename_i c3
      split at h
      · rename_i c4
        split at h
        · rename_i c5
          cases hc : chunksF (s.length + 1) j s with
          | error e => rw [hc] at h; cases h
          | ok z =>
            obtain ⟨t0, q0⟩ := z
            rw [hc] at h
            cases h
            obtain ⟨P, hP, hO⟩ := chunks_own j _ _ _ _ hc
            refine ⟨p ++ P, by rw [hP, List.append_assoc], by rw [List.length_append]; omega, fun n' hn => ?_⟩
            obtain ⟨n', rfl⟩ : ∃ k, n' = k + 1 := ⟨n' - 1, by omega⟩
            refine own_behind hd hp2 (fun t => ?_) (fun q hq => ?_)
            · rw [open1, if_neg c1, if_neg c2, if_neg c3, if_pos c4, if_pos c5]
              obtain ⟨o1, _⟩ := hO (max (s.length + 1) ((P ++ t).length + 1)) (Nat.le_max_left _ _)
              rw [chunks_enough j _ (max (s.length + 1) ((P ++ t).length + 1)) (P ++ t) (by omega) (by omega), o1]
            · rw [open1, if_neg c1, if_neg c2, if_neg c3, if_pos c4, if_pos c5]
              obtain ⟨_, o2⟩ := hO (max (s.length + 1) ((P.take q).length + 1)) (Nat.le_max_left _ _)
              rw [chunks_enough j _ (max (s.length + 1) ((P.take q).length + 1)) (P.take q) (by omega) (by omega), o2 q hq]
        · rename_i c5
          split at h
          · cases h
          · rename_i c6
            cases h
            have hra : (s.take a).length = a := by rw [List.length_take]; omega
            refine ⟨p ++ s.take a, by rw [List.append_assoc, List.take_append_drop], by rw [List.length_append]; omega, fun n' hn => ?_⟩
            obtain ⟨n', rfl⟩ : ∃ k, n' = k + 1 := ⟨n' - 1, by omega⟩
            refine own_behind hd hp2 (fun t => ?_) (fun q hq => ?_)
            · rw [open1, if_neg c1, if_neg c2, if_neg c3, if_pos c4, if_neg c5, if_neg (by rw [List.length_append]; omega), List.take_left' hra, List.drop_left' hra]
            · rw [open1, if_neg c1, if_neg c2, if_neg c3, if_pos c4, if_neg c5, if_pos (by rw [List.length_take]; omega)]
      rename_i c4
      have lst : ∀ (pr : Bool) (H : Hd) (f : Fo) (q0 : List UInt8), listF F tg n (d + 1) (if k = 31 then none else some a) pr false s = .ok (f, q0) →
          (∀ n' t, itemF F tg (n' + 1) d (p ++ t) = (match listF F tg n' (d + 1) (if k = 31 then none else some a) pr false t with
            | .error e => .error e
            | .ok (f, q) => .ok ((H, f), q))) → ∃ p', p ++ s = p' ++ q0 ∧ 0 < p'.length ∧ ∀ n', n + 1 < n' → Own (itemF F tg n' d) p' (H, f) := by
        intro pr H f q0 hl ho
        obtain ⟨P, hP, hO⟩ := hL _ _ _ _ _ _ _ hl
        refine ⟨p ++ P, by rw [hP, List.append_assoc], by rw [List.length_append]; omega, fun n' hn => ?_⟩
        obtain ⟨n', rfl⟩ : ∃ k, n' = k + 1 := ⟨n' - 1, by omega⟩
        obtain ⟨o1, o2⟩ := hO n' (by omega)
        refine own_behind hd hp2 (fun t => ?_) (fun q hq => ?_)
        · rw [ho, o1]
        · rw [ho, o2 q hq]
      split at h
      · rename_i c5
        cases hc : listF F tg n (d + 1) (if k = 31 then none else some a) false false s with
        | error e => rw [hc] at h; cases h
        | ok z =>
          obtain ⟨f, q0⟩ := z
          rw [hc] at h
          cases h
          exact lst false arrC f _ hc (fun n' t => by rw [open1, if_neg c1, if_neg c2, if_neg c3, if_neg c4, if_pos c5])
      rename_i c5
      split at h
      · rename_i c6
        cases hc : listF F tg n (d + 1) (if k = 31 then none else some a) true false s with
        | error e => rw [hc] at h; cases h
        | ok z =>
          obtain ⟨f, q0⟩ := z
          rw [hc] at h
          cases h
          exact lst true mapC f _ hc (fun n' t => by rw [open1, if_neg c1, if_neg c2, if_neg c3, if_neg c4, if_neg c5, if_pos c6])
      rename_i c6
      split at h
      · rename_i c7
        cases hc : itemF F tg n (d + 1) s with
        | error e => rw [hc] at h; cases h
        | ok z =>
          obtain ⟨⟨h0, f⟩, q0⟩ := z
          rw [hc] at h
          cases h
          obtain ⟨P, hP, _, hO⟩ := hI _ _ _ _ hc
          refine ⟨p ++ P, by rw [hP, List.append_assoc], by rw [List.length_append]; omega, fun n' hn => ?_⟩
          obtain ⟨n', rfl⟩ : ∃ k, n' = k + 1 := ⟨n' - 1, by omega⟩
          obtain ⟨o1, o2⟩ := hO n' (by omega)
          refine own_behind hd hp2 (fun t => ?_) (fun q hq => ?_)
          · rw [open1, if_neg c1, if_neg c2, if_neg c3, if_neg c4, if_neg c5, if_neg c6, if_pos c7, o1]
          · rw [open1, if_neg c1, if_neg c2, if_neg c3, if_neg c4, if_neg c5, if_neg c6, if_pos c7, o2 q hq]
      rename_i c7
      cases ho : F.oth k a with
      | none => rw [ho] at h; cases h
      | some h0 =>
        rw [ho] at h
        cases h
        exact ⟨p, rfl, hp, leaf _ (fun n' t => by rw [open1, if_neg c1, if_neg c2, if_neg c3, if_neg c4, if_neg c5, if_neg c6, if_neg c7, ho])⟩
theorem list_own (F : Lf) (tg : Nat → Hd) {n : Nat} (hI : ItemOwn F tg n) (hL : ListOwn F tg n) : ListOwn F tg (n + 1) := by
  intro d c p o l f r h
  rw [listF] at h
  split at h
  · rename_i c1
    cases h
    refine ⟨[], rfl, fun n' hn => ?_⟩
    obtain ⟨n', rfl⟩ : ∃ k, n' = k + 1 := ⟨n' - 1, by omega⟩
    exact ⟨fun t => by rw [listF, if_pos c1]; rfl, fun q hq => absurd hq (by simp)⟩
  rename_i c1
  split at h
  · rename_i c2
    cases h
    refine ⟨[255], ends_tail c2.2.1, fun n' hn => ?_⟩
    obtain ⟨n', rfl⟩ : ∃ k, n' = k + 1 := ⟨n' - 1, by omega⟩
    refine ⟨fun t => ?_, fun q hq => ?_⟩
    · show listF F tg (n' + 1) d c p o (255 :: t) = _
      rw [listF, if_neg c1, if_pos ⟨c2.1, rfl, c2.2.2⟩]
      rfl
    · have : q = 0 := by simpa using hq
      subst this
      show listF F tg (n' + 1) d c p o [] = _
      rw [listF, if_neg c1, if_neg (by rintro ⟨_, e, _⟩; cases e)]
      obtain ⟨m, rfl⟩ : ∃ k, n' = k + 1 := ⟨n' - 1, by omega⟩
      have e : itemF F tg (m + 1) d [] = .error 100 := by
        rw [itemF, if_neg (by rintro ⟨_, e⟩; exact e rfl)]
        rfl
      rw [e]
  rename_i c2
  cases hc : itemF F tg n d l with
  | error e => rw [hc] at h; cases h
  | ok z =>
    obtain ⟨⟨h0, f0⟩, s⟩ := z
    rw [hc] at h
    simp only at h
    cases hg : listF F tg n d (less c p o) p (!o) s with
    | error e => rw [hg] at h; cases h
    | ok y =>
      obtain ⟨g, q0⟩ := y
      rw [hg] at h
      cases h
      obtain ⟨p1, rfl, hp1, hO1⟩ := hI _ _ _ _ hc
      obtain ⟨P, hP, hO2⟩ := hL _ _ _ _ _ _ _ hg
      have hne : p1 ≠ [] := fun e => by rw [e] at hp1; exact absurd hp1 (by decide)
      refine ⟨p1 ++ P, by rw [hP, List.append_assoc], fun n' hn => ?_⟩
      obtain ⟨n', rfl⟩ : ∃ k, n' = k + 1 := ⟨n' - 1, by omega⟩
      obtain ⟨a1, a2⟩ := hO1 n' (by omega)
      obtain ⟨b1, b2⟩ := hO2 n' (by omega)
      have hend : ∀ t, ¬ (c = none ∧ endsL (p1 ++ t) = true ∧ (p = false ∨ o = false)) := fun t hh => c2 ⟨hh.1, by rw [ends_app _ hne]; have := hh.2.1; rwa [ends_app _ hne] at this, hh.2.2⟩
      refine ⟨fun t => ?_, fun q hq => ?_⟩
      · rw [List.append_assoc, listF, if_neg c1, if_neg (hend _), a1]
        simp only
        rw [b1]
      · rcases Nat.lt_or_ge q p1.length with h1 | h1
        · rw [take_lt _ _ (by omega), listF, if_neg c1, if_neg ?_, a2 q h1]
          rintro ⟨e1, e2, e3⟩
          cases q with
          | zero => cases e2
          | succ q =>
            refine hend [] ⟨e1, ?_, e3⟩
            cases p1 with
            | nil => exact absurd rfl hne
            | cons c0 s0 => exact e2
        · rw [take_ge _ _ h1, listF, if_neg c1, if_neg (hend _), a1]
          simp only
          rw [b2 (q - p1.length) (by rw [List.length_append] at hq; omega)]
theorem both_own (F : Lf) (tg : Nat → Hd) : ∀ n, ItemOwn F tg n ∧ ListOwn F tg n
  | 0 => ⟨fun _ _ _ _ h => (by rw [itemF] at h; cases h), fun _ _ _ _ _ _ _ h => (by rw [listF] at h; cases h)⟩
  | n + 1 => ⟨item_own F tg (both_own F tg n).1 (both_own F tg n).2, list_own F tg (both_own F tg n).1 (both_own F tg n).2⟩
end Go.Proofs.YtppapkpceejnkaaGreatDoor
namespace Go.Proofs.YtppapkpceejnkaaGreatDoor
open Go.RowKit

theorem item_len {F : Lf} {tg : Nat → Hd} {n d : Nat} {l : List UInt8} {x : Hd × Fo} {r : List UInt8} (h : itemF F tg n d l = .ok (x, r)) : r.length < l.length := by
  obtain ⟨p, rfl, hp, _⟩ := (both_own F tg n).1 _ _ _ _ h
  rw [List.length_append]; omega
theorem enough (F : Lf) (tg : Nat → Hd) : ∀ n, (∀ (n' d : Nat) (l : List UInt8), 2 * l.length + 2 ≤ n → 2 * l.length + 2 ≤ n' → itemF F tg n d l = itemF F tg n' d l) ∧
    (∀ (n' d : Nat) (c : Option Nat) (p o : Bool) (l : List UInt8), 2 * l.length + 3 ≤ n → 2 * l.length + 3 ≤ n' → listF F tg n d c p o l = listF F tg n' d c p o l)
  | 0 => ⟨fun _ _ _ h => by omega, fun _ _ _ _ _ _ h => by omega⟩
  | n + 1 => by
    have ih := enough F tg n
    refine ⟨fun n' d l h h' => ?_, fun n' d c p o l h h' => ?_⟩
    · obtain ⟨n', rfl⟩ : ∃ k, n' = k + 1 := ⟨n' - 1, by omega⟩
      rw [itemF, itemF]
      cases hr : rdL l with
      | error e => rfl
      | ok y =>
        obtain ⟨j, k, a, r⟩ := y
        have hl := rdL_len hr
        simp only
        rw [ih.1 n' (d + 1) r (by omega) (by omega), ih.2 n' (d + 1) (if k = 31 then none else some a) false false r (by omega) (by omega), ih.2 n' (d + 1) (if k = 31 then none else some a) true false r (by omega) (by omega)]
    · obtain ⟨n', rfl⟩ : ∃ k, n' = k + 1 := ⟨n' - 1, by omega⟩
      rw [listF, listF, ih.1 n' d l (by omega) (by omega)]
      cases hi : itemF F tg n' d l with
      | error e => rfl
      | ok y =>
        obtain ⟨⟨h0, f0⟩, r⟩ := y
        have hl := item_len hi
        simp only
        rw [ih.2 n' d (less c p o) p (!o) r (by omega) (by omega)]
/-- The item that bytes begin with. -/
def itemL (F : Lf) (tg : Nat → Hd) (d : Nat) (l : List UInt8) : Res (Hd × Fo) := itemF F tg (2 * l.length + 2) d l
theorem itemL_eq (F : Lf) (tg : Nat → Hd) {n d : Nat} {l : List UInt8} (h : 2 * l.length + 2 ≤ n) : itemL F tg d l = itemF F tg n d l := (enough F tg _).1 n d l (Nat.le_refl _) h
theorem itemL_own {F : Lf} {tg : Nat → Hd} {d : Nat} {l : List UInt8} {x : Hd × Fo} {r : List UInt8} (h : itemL F tg d l = .ok (x, r)) : ∃ p, l = p ++ r ∧ 0 < p.length ∧ Own (itemL F tg d) p x := by
  obtain ⟨p, hl, hp, hO⟩ := (both_own F tg _).1 _ _ _ _ h
  refine ⟨p, hl, hp, fun t => ?_, fun q hq => ?_⟩
  · rw [itemL_eq F tg (n := 2 * l.length + 2 + (2 * (p ++ t).length + 2) + 1) (by omega)]
    exact (hO _ (by omega)).1 t
  · rw [itemL_eq F tg (n := 2 * l.length + 2 + (2 * (p.take q).length + 2) + 1) (by omega)]
    exact (hO _ (by omega)).2 q hq

/-- What is an item so deep is one elsewhere, unless that is too deep. -/
theorem shift (F : Lf) (tg : Nat → Hd) : ∀ n, (∀ (d : Nat) (l : List UInt8) (x : Hd × Fo) (r : List UInt8), itemF F tg n d l = .ok (x, r) → d + x.2.deep ≤ 16 ∧ ∀ d', itemF F tg n d' l = if d' + x.2.deep ≤ 16 then .ok (x, r) else .error 60) ∧
    (∀ (d : Nat) (c : Option Nat) (p o : Bool) (l : List UInt8) (f : Fo) (r : List UInt8), listF F tg n d c p o l = .ok (f, r) → (f.deep = 0 ∨ d + f.deep ≤ 17) ∧ ∀ d', listF F tg n d' c p o l = if f.deep = 0 ∨ d' + f.deep ≤ 17 then .ok (f, r) else .error 60)
  | 0 => ⟨fun _ _ _ _ h => (by rw [itemF] at h; cases h), fun _ _ _ _ _ _ _ h => (by rw [listF] at h; cases h)⟩
  | n + 1 => by
    have ih := shift F tg n
    refine ⟨fun d l x r h => ?_, fun d c p o l f r h => ?_⟩
    · rw [itemF] at h
      split at h
      · cases h
      rename_i hd0
      cases hr : rdL l with
      | error e => rw [hr] at h; cases h
      | ok y =>
        obtain ⟨j, k, a, s⟩ := y
        rw [hr] at h
        simp only at h
        have hne : l ≠ [] := fun e => by rw [e] at hr; cases hr
        have hd : d ≤ 16 := by
          apply Decidable.byContradiction
          exact fun hn => hd0 ⟨by omega, hne⟩
        have leaf : ∀ (y : Hd × Fo) (q : List UInt8), y.2 = .nil → (∀ d', d' ≤ 16 → itemF F tg (n + 1) d' l = .ok (y, q)) → d + y.2.deep ≤ 16 ∧ ∀ d', itemF F tg (n + 1) d' l = if d' + y.2.deep ≤ 16 then .ok (y, q) else .error 60 := fun y q hy ho => by
          have e0 : y.2.deep = 0 := by rw [hy]; rfl
          rw [e0]
          refine ⟨by omega, fun d' => ?_⟩
          by_cases h1 : d' ≤ 16
          · rw [if_pos (by omega)]; exact ho d' h1
          · rw [if_neg (by omega), itemF, if_pos ⟨by omega, hne⟩]
        have deep : ∀ (y : Hd × Fo) (q : List UInt8) (m : Nat), y.2.deep = m → d + m ≤ 16 → (∀ d', d' ≤ 16 → itemF F tg (n + 1) d' l = if d' + m ≤ 16 then .ok (y, q) else .error 60) → d + y.2.deep ≤ 16 ∧ ∀ d', itemF F tg (n + 1) d' l = if d' + y.2.deep ≤ 16 then .ok (y, q) else .error 60 := fun y q m hy hm ho => by
          rw [hy]
          refine ⟨hm, fun d' => ?_⟩
          by_cases h1 : d' ≤ 16
          · exact ho d' h1
          · rw [if_neg (by omega), itemF, if_pos ⟨by omega, hne⟩]
        have opn : ∀ d', d' ≤ 16 → itemF F tg (n + 1) d' l = (if k = 31 ∧ (j < 2 ∨ j = 6) then .error 110
          else if j = 0 then .ok ((F.num a, .nil), s)
          else if j = 1 then .ok ((F.neg a, .nil), s)
          else if j = 2 ∨ j = 3 then
            (if k = 31 then (match chunksF (s.length + 1) j s with
              | .error e => .error e
              | .ok (t, q) => .ok ((F.str j t, .nil), q))
            else if s.length < a then .error 100 else .ok ((F.str j (s.take a), .nil), s.drop a))
          else if j = 4 then (match listF F tg n (d' + 1) (if k = 31 then none else some a) false false s with
            | .error e => .error e
            | .ok (f, q) => .ok ((arrC, f), q))
          else if j = 5 then (match listF F tg n (d' + 1) (if k = 31 then none else some a) true false s with
            | .error e => .error e
            | .ok (f, q) => .ok ((mapC, f), q))
          else if j = 6 then (match itemF F tg n (d' + 1) s with
            | .error e => .error e
            | .ok ((h, f), q) => .ok ((tg a, .cons h f .nil), q))
          else (match F.oth k a with
            | none => .error 110
            | some h => .ok ((h, .nil), s))) := fun d' hd' => by
          rw [itemF, if_neg (by omega), hr]
          all_goals rfl
        split at h
        · cases h
        rename_i c1
        split at h
        · rename_i c2
          cases h
          exact leaf _ _ rfl (fun d' hd' => by rw [opn d' hd', if_neg c1, if_pos c2])
        rename_i c2
        split at h
        · rename_i c3
          cases h
          exact leaf _ _ rfl (fun d' hd' => by rw [opn d' hd', if_neg c1, if_neg c2, if_pos c3])
        rename_i c3
        split at h
        · rename_i c4
          split at h
          · rename_i c5
            cases hc : chunksF (s.length + 1) j s with
            | error e => rw [hc] at h; cases h
            | ok z =>
              obtain ⟨t0, q0⟩ := z
              rw [hc] at h
              cases h
              exact leaf _ _ rfl (fun d' hd' => by rw [opn d' hd', if_neg c1, if_neg c2, if_neg c3, if_pos c4, if_pos c5, hc])
          · rename_i c5
            split at h
            · cases h
            · rename_i c6
              cases h
              exact leaf _ _ rfl (fun d' hd' => by rw [opn d' hd', if_neg c1, if_neg c2, if_neg c3, if_pos c4, if_neg c5, if_neg c6])
        rename_i c4
        split at h
        · rename_i c5
          cases hc : listF F tg n (d + 1) (if k = 31 then none else some a) false false s with
          | error e => rw [hc] at h; cases h
          | ok z =>
            obtain ⟨f, q0⟩ := z
            rw [hc] at h
            cases h
            obtain ⟨g1, g2⟩ := ih.2 _ _ _ _ _ _ _ hc
            refine deep (arrC, f) _ f.deep rfl (by omega) (fun d' hd' => ?_)
            rw [opn d' hd', if_neg c1, if_neg c2, if_neg c3, if_neg c4, if_pos c5, g2]
            by_cases hh : d' + f.deep ≤ 16
            · rw [if_pos hh, if_pos (by omega)]
            · rw [if_neg hh, if_neg (by omega)]
        rename_i c5
        split at h
        · rename_i c6
          cases hc : listF F tg n (d + 1) (if k = 31 then none else some a) true false s with
          | error e => rw [hc] at h; cases h
          | ok z =>
            obtain ⟨f, q0⟩ := z
            rw [hc] at h
            cases h
            obtain ⟨g1, g2⟩ := ih.2 _ _ _ _ _ _ _ hc
            refine deep (mapC, f) _ f.deep rfl (by omega) (fun d' hd' => ?_)
            rw [opn d' hd', if_neg c1, if_neg c2, if_neg c3, if_neg c4, if_neg c5, if_pos c6, g2]
            by_cases hh : d' + f.deep ≤ 16
            · rw [if_pos hh, if_pos (by omega)]
            · rw [if_neg hh, if_neg (by omega)]
        rename_i c6
        split at h
        · rename_i c7
          cases hc : itemF F tg n (d + 1) s with
          | error e => rw [hc] at h; cases h
          | ok z =>
            obtain ⟨⟨h0, f⟩, q0⟩ := z
            rw [hc] at h
            cases h
            obtain ⟨g1, g2⟩ := ih.1 _ _ _ _ hc
            simp only at g1 g2
            have e1 : (Fo.cons h0 f .nil).deep = f.deep + 1 := by simp [Fo.deep]
            refine deep (tg a, .cons h0 f .nil) _ (f.deep + 1) e1 (by omega) (fun d' hd' => ?_)
            rw [opn d' hd', if_neg c1, if_neg c2, if_neg c3, if_neg c4, if_neg c5, if_neg c6, if_pos c7, g2]
            by_cases hh : d' + (f.deep + 1) ≤ 16
            · rw [if_pos hh, if_pos (by omega)]
            · rw [if_neg hh, if_neg (by omega)]
        rename_i c7
        cases ho : F.oth k a with
        | none => rw [ho] at h; cases h
        | some h0 =>
          rw [ho] at h
          cases h
          exact leaf _ _ rfl (fun d' hd' => by rw [opn d' hd', if_neg c1, if_neg c2, if_neg c3, if_neg c4, if_neg c5, if_neg c6, if_neg c7, ho])
    · rw [listF] at h
      split at h
      · rename_i c1
        cases h
        exact ⟨.inl rfl, fun d' => by rw [listF, if_pos c1, if_pos (.inl rfl)]⟩
      rename_i c1
      split at h
      · rename_i c2
        cases h
        exact ⟨.inl rfl, fun d' => by rw [listF, if_neg c1, if_pos c2, if_pos (.inl rfl)]⟩
      rename_i c2
      cases hc : itemF F tg n d l with
      | error e => rw [hc] at h; cases h
      | ok z =>
        obtain ⟨⟨h0, f0⟩, s⟩ := z
        rw [hc] at h
        simp only at h
        cases hg : listF F tg n d (less c p o) p (!o) s with
        | error e => rw [hg] at h; cases h
        | ok y =>
          obtain ⟨g, q0⟩ := y
          rw [hg] at h
          cases h
          obtain ⟨a1, a2⟩ := ih.1 _ _ _ _ hc
          obtain ⟨b1, b2⟩ := ih.2 _ _ _ _ _ _ _ hg
          simp only at a1 a2
          have eD : (Fo.cons h0 f0 g).deep = max (f0.deep + 1) g.deep := rfl
          rw [eD]
          refine ⟨.inr (by omega), fun d' => ?_⟩
          rw [listF, if_neg c1, if_neg c2, a2]
          by_cases h1 : d' + f0.deep ≤ 16
          · rw [if_pos h1]
            simp only
            rw [b2]
            by_cases h2 : g.deep = 0 ∨ d' + g.deep ≤ 17
            · rw [if_pos h2]
              show (Except.ok _ : Res Fo) = _
              rw [if_pos (by omega)]
            · rw [if_neg h2]
              show (Except.error _ : Res Fo) = _
              rw [if_neg (by omega)]
          · rw [if_neg h1]
            show (Except.error _ : Res Fo) = _
            rw [if_neg (by omega)]
end Go.Proofs.YtppapkpceejnkaaGreatDoor
namespace Go.Proofs.YtppapkpceejnkaaGreatDoor
open Go.RowKit

theorem s_first {m k : Nat} (hm : m < 8) (hk : k < 32) : (UInt8.ofNat (32 * m + k)).toNat = 32 * m + k := by
  rw [UInt8.toNat_ofNat', Nat.mod_eq_of_lt (by omega)]
theorem s_lt {a : Nat} (ha : a < 18446744073709551616) (h24 : ¬ a < 24) : a < 256 ^ hext a := by
  have e : a < 256 ∧ hext a = 1 ∨ a < 65536 ∧ hext a = 2 ∨ a < 4294967296 ∧ hext a = 4 ∨ hext a = 8 := by
    unfold hext
    repeat' split
    all_goals omega
  rcases e with ⟨h, e⟩ | ⟨h, e⟩ | ⟨h, e⟩ | e <;> rw [e] <;> omega
theorem s_ge {a : Nat} (h : ¬ a < 24) : ¬ hinfo a < 24 := by
  unfold hinfo
  rw [if_neg h]
  repeat' split
  all_goals omega
theorem argW_head {a : Nat} (ha : a < 18446744073709551616) : argW (hinfo a) (bigL (hext a) a) = a := by
  by_cases h : a < 24
  · have e : hinfo a = a := by rw [hinfo, if_pos h]
    rw [argW, e, if_pos h]
  · rw [argW, if_neg (s_ge h), valQ_big, Nat.mod_eq_of_lt (s_lt ha h)]
theorem rdL_head {m a : Nat} (hm : m < 8) (ha : a < 18446744073709551616) (t : List UInt8) : rdL (headL m a ++ t) = .ok (m, hinfo a, a, t) := by
  have hi := hinfo_le a
  have hl := bigL_len (hext a) a
  rw [headL, List.cons_append, rdL_cons, s_first hm (by omega), show (32 * m + hinfo a) % 32 = hinfo a by omega, nby_info]
  simp only
  rw [if_neg (by rw [List.length_append, hl]; omega), List.take_left' hl, List.drop_left' hl, argW_head ha, show (32 * m + hinfo a) / 32 = m by omega]
theorem rdL_open {m : Nat} (hm : m < 8) (t : List UInt8) : rdL (UInt8.ofNat (32 * m + 31) :: t) = .ok (m, 31, 0, t) := by
  rw [rdL_cons, s_first hm (by omega), show (32 * m + 31) % 32 = 31 by omega, show (32 * m + 31) / 32 = m by omega]
  rfl
theorem head_ne (m a : Nat) (t : List UInt8) : headL m a ++ t ≠ [] := by rw [headL]; simp
theorem head_ends {m a : Nat} (hm : m < 7) (t : List UInt8) : endsL (headL m a ++ t) = false := by
  have hi := hinfo_le a
  rw [headL, List.cons_append, endsL, beq_eq_false_iff_ne]
  intro e
  have h := congrArg UInt8.toNat e
  rw [s_first (by omega) (by omega)] at h
  have : (255 : UInt8).toNat = 255 := rfl
  omega

section
variable {F : Lf} {tg : Nat → Hd}
theorem itemF_L {n d : Nat} {l : List UInt8} (h : 2 * l.length + 2 ≤ n) : itemF F tg n d l = itemL F tg d l := (itemL_eq F tg h).symm
/-- Elsewhere. -/
theorem itemL_shift {d : Nat} {l : List UInt8} {x : Hd × Fo} {r : List UInt8} (h : itemL F tg d l = .ok (x, r)) (d' : Nat) : itemL F tg d' l = if d' + x.2.deep ≤ 16 then .ok (x, r) else .error 60 := ((shift F tg _).1 _ _ _ _ h).2 d'
theorem itemL_deep {d : Nat} {l : List UInt8} {x : Hd × Fo} {r : List UInt8} (h : itemL F tg d l = .ok (x, r)) : d + x.2.deep ≤ 16 := ((shift F tg _).1 _ _ _ _ h).1
/-! Tags. -/
theorem tag_item (u : Nat) (s : List UInt8) (hu : u < 18446744073709551616) : itemL F tg 1 (headL 6 u ++ s) = match itemL F tg 2 s with
    | .error e => .error e
    | .ok ((h, f), q) => .ok ((tg u, .cons h f .nil), q) := by
  have hi := hinfo_le u
  have hl := headL_len 6 u
  rw [itemL, itemF, if_neg (by omega), rdL_head (by decide) hu]
  simp only
  rw [if_neg (by omega), if_neg (by decide), if_neg (by decide), if_neg (by decide), if_neg (by decide), if_neg (by decide), if_pos trivial, itemF_L (by rw [List.length_append, hl]; omega)]
  all_goals rfl
theorem tag_ok {u : Nat} {s : List UInt8} {x : Hd × Fo} {r : List UInt8} (hu : u < 18446744073709551616) (h : itemL F tg 1 s = .ok (x, r)) :
    itemL F tg 1 (headL 6 u ++ s) = if 2 + x.2.deep ≤ 16 then .ok ((tg u, .cons x.1 x.2 .nil), r) else .error 60 := by
  rw [tag_item u s hu, itemL_shift h 2]
  by_cases hd : 2 + x.2.deep ≤ 16
  · rw [if_pos hd, if_pos hd]
  · rw [if_neg hd, if_neg hd]
theorem tag_err {u : Nat} {s : List UInt8} {e : Nat} (hu : u < 18446744073709551616) (h : itemL F tg 1 s = .error e) : ∃ e', itemL F tg 1 (headL 6 u ++ s) = .error e' := by
  rw [tag_item u s hu]
  cases hi : itemL F tg 2 s with
  | error e' => exact ⟨e', rfl⟩
  | ok y =>
    obtain ⟨x, r⟩ := y
    have h1 := itemL_shift hi 1
    have h2 := itemL_deep hi
    rw [if_pos (by omega), h] at h1
    cases h1
/-! Lists. -/
def allB : List (List UInt8 × (Hd × Fo)) → List UInt8
  | [] => []
  | i :: r => i.1 ++ allB r
def foI : List (List UInt8 × (Hd × Fo)) → Fo
  | [] => .nil
  | i :: r => .cons i.2.1 i.2.2 (foI r)
theorem item_first (hF : ∀ a, F.oth 31 a = none) {d : Nat} {l : List UInt8} {x : Hd × Fo} {r : List UInt8} (h : itemL F tg d l = .ok (x, r)) : endsL l = false := by
  cases l with
  | nil => rfl
  | cons c s =>
    cases he : endsL (c :: s) with
    | false => rfl
    | true =>
      have hc : c = 255 := by simpa [endsL] using he
      subst hc
      rw [itemL, itemF] at h
      split at h
      · cases h
      · rw [show rdL (255 :: s) = .ok (7, 31, 0, s) from rfl] at h
        simp only at h
        rw [if_neg (by omega), if_neg (by decide), if_neg (by decide), if_neg (by decide), if_neg (by decide), if_neg (by decide), if_neg (by decide), hF] at h
        cases h
theorem lists_def : ∀ (its : List (List UInt8 × (Hd × Fo))) (t : List UInt8) (n : Nat), (∀ i ∈ its, Own (itemL F tg 1) i.1 i.2) → 2 * (allB its ++ t).length + 3 ≤ n →
    listF F tg n 2 (some its.length) false false (allB its ++ t) = if (foI its).deep = 0 ∨ 2 + (foI its).deep ≤ 17 then .ok (foI its, t) else .error 60
  | [], t, n, _, hn => by
    obtain ⟨n, rfl⟩ : ∃ k, n = k + 1 := ⟨n - 1, by omega⟩
    rw [listF, if_pos (by rfl), if_pos (.inl rfl)]
    rfl
  | i :: r, t, n, hO, hn => by
    obtain ⟨n, rfl⟩ : ∃ k, n = k + 1 := ⟨n - 1, by omega⟩
    have h0 := (hO i (List.mem_cons_self ..)).1 (allB r ++ t)
    have hd := itemL_deep h0
    have ha : allB (i :: r) ++ t = i.1 ++ (allB r ++ t) := by rw [allB, List.append_assoc]
    rw [ha] at hn ⊢
    have hl : (allB r ++ t).length < (i.1 ++ (allB r ++ t)).length := item_len h0
    rw [listF, if_neg (by simp), if_neg (by rintro ⟨e, _⟩; cases e), itemF_L (by omega), itemL_shift h0 2]
    have eD : (foI (i :: r)).deep = max (i.2.2.deep + 1) (foI r).deep := rfl
    have ih := lists_def r t n (fun j hj => hO j (List.mem_cons_of_mem _ hj)) (by omega)
    have el : less (some (i :: r).length) false false = some r.length := rfl
    rw [eD]
    by_cases h1 : 2 + i.2.2.deep ≤ 16
    · rw [if_pos h1]
      simp only
      -- what is read next stands at a place of which less tells nothing
      have lo : ∀ (o : Bool) (m : Nat) (c : Option Nat) (l : List UInt8), listF F tg m 2 c false o l = listF F tg m 2 c false false l := by
        intro o m
        induction m generalizing o with
        | zero => intro c l; rw [listF, listF]
        | succ m ihm =>
          intro c l
          rw [listF, listF]
          simp only [less, true_or, if_true, Bool.not_false]
          cases o with
          | false => rfl
          | true =>
            simp only [Bool.not_true, ihm true]
      rw [el, lo, ih]
      by_cases h2 : (foI r).deep = 0 ∨ 2 + (foI r).deep ≤ 17
      · rw [if_pos h2]
        show (Except.ok _ : Res Fo) = _
        rw [if_pos (by omega)]
        rfl
      · rw [if_neg h2]
        show (Except.error _ : Res Fo) = _
        rw [if_neg (by omega)]
    · rw [if_neg h1]
      show (Except.error _ : Res Fo) = _
      rw [if_neg (by omega)]
end
end Go.Proofs.YtppapkpceejnkaaGreatDoor
namespace Go.Proofs.YtppapkpceejnkaaGreatDoor
open Go.RowKit

section
variable {F : Lf} {tg : Nat → Hd}
theorem list_o (o : Bool) : ∀ (m d : Nat) (c : Option Nat) (l : List UInt8), listF F tg m d c false o l = listF F tg m d c false false l := by
  intro m
  induction m generalizing o with
  | zero => intro d c l; rw [listF, listF]
  | succ m ihm =>
    intro d c l
    rw [listF, listF]
    simp only [less, true_or, if_true, Bool.not_false]
    cases o with
    | false => rfl
    | true => simp only [Bool.not_true, ihm true]
theorem lists_up (hF : ∀ a, F.oth 31 a = none) : ∀ (its : List (List UInt8 × (Hd × Fo))) (t : List UInt8) (n : Nat), (∀ i ∈ its, Own (itemL F tg 1) i.1 i.2) → 2 * (allB its ++ 255 :: t).length + 3 ≤ n →
    listF F tg n 2 none false false (allB its ++ 255 :: t) = if (foI its).deep = 0 ∨ 2 + (foI its).deep ≤ 17 then .ok (foI its, t) else .error 60
  | [], t, n, _, hn => by
    obtain ⟨n, rfl⟩ : ∃ k, n = k + 1 := ⟨n - 1, by omega⟩
    rw [listF, if_neg (by simp), if_pos ⟨rfl, rfl, .inl rfl⟩, if_pos (.inl rfl)]
    rfl
  | i :: r, t, n, hO, hn => by
    obtain ⟨n, rfl⟩ : ∃ k, n = k + 1 := ⟨n - 1, by omega⟩
    have h0 := (hO i (List.mem_cons_self ..)).1 (allB r ++ 255 :: t)
    have hd := itemL_deep h0
    have ha : allB (i :: r) ++ 255 :: t = i.1 ++ (allB r ++ 255 :: t) := by rw [allB, List.append_assoc]
    rw [ha] at hn ⊢
    have hl : (allB r ++ 255 :: t).length < (i.1 ++ (allB r ++ 255 :: t)).length := item_len h0
    rw [listF, if_neg (by simp), if_neg (by rw [item_first hF h0]; rintro ⟨_, e, _⟩; cases e), itemF_L (by omega), itemL_shift h0 2]
    have eD : (foI (i :: r)).deep = max (i.2.2.deep + 1) (foI r).deep := rfl
    have ih := lists_up hF r t n (fun j hj => hO j (List.mem_cons_of_mem _ hj)) (by omega)
    have el : less none false false = none := rfl
    rw [eD]
    by_cases h1 : 2 + i.2.2.deep ≤ 16
    · rw [if_pos h1]
      simp only
      rw [el, list_o, ih]
      by_cases h2 : (foI r).deep = 0 ∨ 2 + (foI r).deep ≤ 17
      · rw [if_pos h2]
        show (Except.ok _ : Res Fo) = _
        rw [if_pos (by omega)]
        rfl
      · rw [if_neg h2]
        show (Except.error _ : Res Fo) = _
        rw [if_neg (by omega)]
    · rw [if_neg h1]
      show (Except.error _ : Res Fo) = _
      rw [if_neg (by omega)]
/-- An array of items, definite. -/
theorem arr_def (its : List (List UInt8 × (Hd × Fo))) (t : List UInt8) (hO : ∀ i ∈ its, Own (itemL F tg 1) i.1 i.2) (hn : its.length < 18446744073709551616) :
    itemL F tg 1 (headL 4 its.length ++ (allB its ++ t)) = if 1 + (foI its).deep ≤ 16 then .ok ((arrC, foI its), t) else .error 60 := by
  have hi := hinfo_le its.length
  have hl := headL_len 4 its.length
  have e1 : (headL 4 its.length ++ (allB its ++ t)).length = (headL 4 its.length).length + (allB its ++ t).length := List.length_append
  rw [itemL, itemF, if_neg (by omega), rdL_head (by decide) hn]
  simp only
  rw [if_neg (by omega), if_neg (by decide), if_neg (by decide), if_neg (by decide), if_pos trivial, if_neg (by omega), lists_def its t _ hO (by omega)]
  by_cases h : 1 + (foI its).deep ≤ 16
  · rw [if_pos h, if_pos (show (foI its).deep = 0 ∨ 2 + (foI its).deep ≤ 17 by omega)]
  · rw [if_neg h, if_neg (show ¬ ((foI its).deep = 0 ∨ 2 + (foI its).deep ≤ 17) by omega)]
/-- An array of items, open. -/
theorem arr_open (hF : ∀ a, F.oth 31 a = none) (its : List (List UInt8 × (Hd × Fo))) (t : List UInt8) (hO : ∀ i ∈ its, Own (itemL F tg 1) i.1 i.2) :
    itemL F tg 1 (159 :: (allB its ++ 255 :: t)) = if 1 + (foI its).deep ≤ 16 then .ok ((arrC, foI its), t) else .error 60 := by
  rw [itemL, itemF, if_neg (by omega), show rdL (159 :: (allB its ++ 255 :: t)) = .ok (4, 31, 0, allB its ++ 255 :: t) from rfl]
  simp only
  rw [if_neg (by omega), if_neg (by decide), if_neg (by decide), if_neg (by decide), if_pos trivial, if_pos trivial, lists_up hF its t _ hO (by rw [List.length_cons]; omega)]
  by_cases h : 1 + (foI its).deep ≤ 16
  · rw [if_pos h, if_pos (show (foI its).deep = 0 ∨ 2 + (foI its).deep ≤ 17 by omega)]
  · rw [if_neg h, if_neg (show ¬ ((foI its).deep = 0 ∨ 2 + (foI its).deep ≤ 17) by omega)]
/-! Chunks. -/
def chB (m : Nat) : List (List UInt8) → List UInt8
  | [] => []
  | p :: r => headL m p.length ++ (p ++ chB m r)
theorem chunks_of {m : Nat} (hm : m < 7) : ∀ (ps : List (List UInt8)) (t : List UInt8) (n : Nat), (∀ p ∈ ps, p.length < 18446744073709551616) → (chB m ps ++ 255 :: t).length < n →
    chunksF n m (chB m ps ++ 255 :: t) = .ok (ps.flatten, t)
  | [], t, n, _, hn => by
    obtain ⟨n, rfl⟩ : ∃ k, n = k + 1 := ⟨n - 1, by omega⟩
    rw [chunksF, if_pos (show endsL (chB m [] ++ 255 :: t) = true from rfl)]
    rfl
  | p :: r, t, n, hp, hn => by
    obtain ⟨n, rfl⟩ : ∃ k, n = k + 1 := ⟨n - 1, by omega⟩
    have hi := hinfo_le p.length
    have hl := headL_len m p.length
    have ha : chB m (p :: r) ++ 255 :: t = headL m p.length ++ (p ++ (chB m r ++ 255 :: t)) := by rw [chB, List.append_assoc, List.append_assoc]
    rw [ha] at hn ⊢
    have hL : (headL m p.length ++ (p ++ (chB m r ++ 255 :: t))).length = 1 + hext p.length + (p.length + (chB m r ++ 255 :: t).length) := by rw [List.length_append, hl, List.length_append]
    have hL2 : (p ++ (chB m r ++ 255 :: t)).length = p.length + (chB m r ++ 255 :: t).length := List.length_append
    rw [chunksF, if_neg (by rw [head_ends hm]; simp), rdL_head (by omega) (hp p (List.mem_cons_self ..))]
    simp only
    rw [if_neg (by omega), if_neg (by omega), List.take_left' rfl, List.drop_left' rfl, chunks_of hm r t n (fun q hq => hp q (List.mem_cons_of_mem _ hq)) (by omega)]
    rfl
theorem str_open {m : Nat} (hm : m = 2 ∨ m = 3) (ps : List (List UInt8)) (t : List UInt8) (hp : ∀ p ∈ ps, p.length < 18446744073709551616) :
    itemL F tg 1 (UInt8.ofNat (32 * m + 31) :: (chB m ps ++ 255 :: t)) = .ok ((F.str m ps.flatten, .nil), t) := by
  rw [itemL, itemF, if_neg (by omega), rdL_open (by omega)]
  simp only
  rw [if_neg (by omega), if_neg (by omega), if_neg (by omega), if_pos hm, if_pos trivial, chunks_of (by omega) ps t _ hp (by omega)]
theorem str_def {m : Nat} (hm : m = 2 ∨ m = 3) (s t : List UInt8) (hs : s.length < 18446744073709551616) :
    itemL F tg 1 (headL m s.length ++ (s ++ t)) = .ok ((F.str m s, .nil), t) := by
  have hi := hinfo_le s.length
  rw [itemL, itemF, if_neg (by omega), rdL_head (by omega) hs]
  simp only
  rw [if_neg (by omega), if_neg (by omega), if_neg (by omega), if_pos hm, if_neg (by omega), if_neg (by rw [List.length_append]; omega), List.take_left' rfl, List.drop_left' rfl]
end
end Go.Proofs.YtppapkpceejnkaaGreatDoor
namespace Go.Proofs.YtppapkpceejnkaaGreatDoor
open Go.RowKit

def listL (F : Lf) (tg : Nat → Hd) (d : Nat) (c : Option Nat) (p o : Bool) (l : List UInt8) : Res Fo := listF F tg (2 * l.length + 3) d c p o l
def chunksL (m : Nat) (l : List UInt8) : Res (List UInt8) := chunksF (l.length + 1) m l
section
variable {F : Lf} {tg : Nat → Hd}
theorem listF_L {n d : Nat} {c : Option Nat} {p o : Bool} {l : List UInt8} (h : 2 * l.length + 3 ≤ n) : listF F tg n d c p o l = listL F tg d c p o l := (enough F tg _).2 _ d c p o l h (Nat.le_refl _)
theorem chunksF_L {n m : Nat} {l : List UInt8} (h : l.length < n) : chunksF n m l = chunksL m l := chunks_enough m _ _ l h (by omega)
theorem itemL_def (d : Nat) (l : List UInt8) : itemL F tg d l = if 16 < d ∧ l ≠ [] then .error 60 else
    match rdL l with
    | .error e => .error (hE e)
    | .ok (j, k, a, r) =>
      if k = 31 ∧ (j < 2 ∨ j = 6) then .error 110
      else if j = 0 then .ok ((F.num a, .nil), r)
      else if j = 1 then .ok ((F.neg a, .nil), r)
      else if j = 2 ∨ j = 3 then
        (if k = 31 then (match chunksL j r with
          | .error e => .error e
          | .ok (t, q) => .ok ((F.str j t, .nil), q))
        else if r.length < a then .error 100 else .ok ((F.str j (r.take a), .nil), r.drop a))
      else if j = 4 then (match listL F tg (d + 1) (if k = 31 then none else some a) false false r with
        | .error e => .error e
        | .ok (f, q) => .ok ((arrC, f), q))
      else if j = 5 then (match listL F tg (d + 1) (if k = 31 then none else some a) true false r with
        | .error e => .error e
        | .ok (f, q) => .ok ((mapC, f), q))
      else if j = 6 then (match itemL F tg (d + 1) r with
        | .error e => .error e
        | .ok ((h, f), q) => .ok ((tg a, .cons h f .nil), q))
      else (match F.oth k a with
        | none => .error 110
        | some h => .ok ((h, .nil), r)) := by
  rw [itemL, itemF]
  cases hr : rdL l with
  | error e => rfl
  | ok y =>
    obtain ⟨j, k, a, r⟩ := y
    have hl := rdL_len hr
    simp only
    rw [itemF_L (by omega), listF_L (by omega), listF_L (by omega)]
    rfl
theorem listL_def (d : Nat) (c : Option Nat) (p o : Bool) (l : List UInt8) : listL F tg d c p o l = if c = some 0 then .ok (.nil, l)
    else if c = none ∧ endsL l = true ∧ (p = false ∨ o = false) then .ok (.nil, l.tail)
    else match itemL F tg d l with
      | .error e => .error e
      | .ok ((h, f), r) => (match listL F tg d (less c p o) p (!o) r with
        | .error e => .error e
        | .ok (g, q) => .ok (.cons h f g, q)) := by
  rw [listL, listF, itemF_L (by omega)]
  cases hi : itemL F tg d l with
  | error e => rfl
  | ok y =>
    obtain ⟨⟨h0, f0⟩, r⟩ := y
    have hl := item_len hi
    simp only
    rw [listF_L (by omega)]
    all_goals rfl
theorem chunksL_def (m : Nat) (l : List UInt8) : chunksL m l = if endsL l then .ok ([], l.tail) else
    match rdL l with
    | .error e => .error (hE e)
    | .ok (j, k, a, r) => if j ≠ m ∨ k = 31 then .error 110 else if r.length < a then .error 100 else
      match chunksL m (r.drop a) with
      | .error e => .error e
      | .ok (t, q) => .ok (r.take a ++ t, q) := by
  rw [chunksL, chunksF]
  cases hr : rdL l with
  | error e => rfl
  | ok y =>
    obtain ⟨j, k, a, r⟩ := y
    have hl := rdL_len hr
    simp only
    rw [chunksF_L (by rw [List.length_drop]; omega)]
    all_goals rfl
theorem rdL_err {l : List UInt8} {e : Nat} (h : rdL l = .error e) : e = 100 ∨ e = 101 := by
  cases l with
  | nil => cases h; exact .inl rfl
  | cons c s =>
    rw [rdL_cons] at h
    split at h
    · cases h; exact .inr rfl
    · split at h
      · cases h; exact .inl rfl
      · cases h
theorem hE_err (e : Nat) : hE e = 100 ∨ hE e = 110 := by unfold hE; split <;> simp
theorem chunks_err (m : Nat) : ∀ (n : Nat) (l : List UInt8) (e : Nat), l.length < n → chunksF n m l = .error e → e = 100 ∨ e = 110
  | 0, _, _, h, _ => by omega
  | n + 1, l, e, hn, h => by
    unfold chunksF at h
    split at h
    · cases h
    · cases hr : rdL l with
      | error e' =>
        rw [hr] at h
        cases h
        exact hE_err e'
      | ok y =>
        obtain ⟨j, k, a, r⟩ := y
        have hl := rdL_len hr
        rw [hr] at h
        simp only at h
        split at h
        · cases h; exact .inr rfl
        · split at h
          · cases h; exact .inl rfl
          · cases hc : chunksF n m (r.drop a) with
            | ok z => rw [hc] at h; cases h
            | error e' =>
              rw [hc] at h
              cases h
              exact chunks_err m n _ _ (by rw [List.length_drop]; omega) hc
def Bad (e : Nat) : Prop := e = 60 ∨ e = 100 ∨ e = 110
theorem both_err : ∀ n, (∀ (d : Nat) (l : List UInt8) (e : Nat), 2 * l.length + 2 ≤ n → itemF F tg n d l = .error e → Bad e) ∧
    (∀ (d : Nat) (c : Option Nat) (p o : Bool) (l : List UInt8) (e : Nat), 2 * l.length + 3 ≤ n → listF F tg n d c p o l = .error e → Bad e)
  | 0 => ⟨fun _ _ _ h _ => by omega, fun _ _ _ _ _ _ h _ => by omega⟩
  | n + 1 => by
    have ih := both_err n
    refine ⟨fun d l e hn h => ?_, fun d c p o l e hn h => ?_⟩
    · rw [itemF] at h
      split at h
      · cases h; exact .inl rfl
      cases hr : rdL l with
      | error e' =>
        rw [hr] at h
        cases h
        exact .inr (hE_err e')
      | ok y =>
        obtain ⟨j, k, a, s⟩ := y
        have hl := rdL_len hr
        rw [hr] at h
        simp only at h
        split at h
        · cases h; exact .inr (.inr rfl)
        split at h
        · cases h
        split at h
        · cases h
        split at h
        · split at h
          · cases hc : chunksF (s.length + 1) j s with
            | ok z => rw [hc] at h; cases h
            | error e' =>
              rw [hc] at h
              cases h
              exact .inr (chunks_err j _ _ _ (by omega) hc)
          · split at h
            · cases h; exact .inr (.inl rfl)
            · cases h
        split at h
        · cases hc : listF F tg n (d + 1) (if k = 31 then none else some a) false false s with
          | ok z => rw [hc] at h; cases h
          | error e' =>
            rw [hc] at h
            cases h
            exact ih.2 _ _ _ _ _ _ (by omega) hc
        split at h
        · cases hc : listF F tg n (d + 1) (if k = 31 then none else some a) true false s with
          | ok z => rw [hc] at h; cases h
          | error e' =>
            rw [hc] at h
            cases h
            exact ih.2 _ _ _ _ _ _ (by omega) hc
        split at h
        · cases hc : itemF F tg n (d + 1) s with
          | ok z => obtain ⟨⟨h0, f⟩, q0⟩ := z; rw [hc] at h; cases h
          | error e' =>
            rw [hc] at h
            cases h
            exact ih.1 _ _ _ (by omega) hc
        cases ho : F.oth k a with
        | some h0 => rw [ho] at h; cases h
        | none => rw [ho] at h; cases h; exact .inr (.inr rfl)
    · rw [listF] at h
      split at h
      · cases h
      split at h
      · cases h
      cases hc : itemF F tg n d l with
      | error e' =>
        rw [hc] at h
        cases h
        exact ih.1 _ _ _ (by omega) hc
      | ok z =>
        obtain ⟨⟨h0, f0⟩, s⟩ := z
        have hl := item_len hc
        rw [hc] at h
        simp only at h
        cases hg : listF F tg n d (less c p o) p (!o) s with
        | ok y => rw [hg] at h; cases h
        | error e' =>
          rw [hg] at h
          cases h
          exact ih.2 _ _ _ _ _ _ (by omega) hg
theorem itemL_err {d : Nat} {l : List UInt8} {e : Nat} (h : itemL F tg d l = .error e) : Bad e := (both_err _).1 _ _ _ (Nat.le_refl _) h
end
end Go.Proofs.YtppapkpceejnkaaGreatDoor
namespace Go.Proofs.YtppapkpceejnkaaGreatDoor
open Go.RowKit

theorem chunks_len {m n : Nat} {l t q : List UInt8} (h : chunksF n m l = .ok (t, q)) : q.length ≤ l.length := by
  obtain ⟨P, rfl, _⟩ := chunks_own m n l t q h
  rw [List.length_append]; omega
theorem both_cnt (F : Lf) (tg : Nat → Hd) : ∀ n, (∀ (d : Nat) (l : List UInt8) (x : Hd × Fo) (r : List UInt8), itemF F tg n d l = .ok (x, r) → x.2.cnt + 1 + r.length ≤ l.length) ∧
    (∀ (d : Nat) (c : Option Nat) (p o : Bool) (l : List UInt8) (f : Fo) (r : List UInt8), listF F tg n d c p o l = .ok (f, r) → f.cnt + r.length ≤ l.length)
  | 0 => ⟨fun _ _ _ _ h => (by rw [itemF] at h; cases h), fun _ _ _ _ _ _ _ h => (by rw [listF] at h; cases h)⟩
  | n + 1 => by
    have ih := both_cnt F tg n
    refine ⟨fun d l x r h => ?_, fun d c p o l f r h => ?_⟩
    · rw [itemF] at h
      split at h
      · cases h
      cases hr : rdL l with
      | error e => rw [hr] at h; cases h
      | ok y =>
        obtain ⟨j, k, a, s⟩ := y
        have hl := rdL_len hr
        have e0 : Fo.nil.cnt = 0 := rfl
        rw [hr] at h
        simp only at h
        split at h
        · cases h
        split at h
        · cases h; show Fo.nil.cnt + 1 + _ ≤ _; omega
        split at h
        · cases h; show Fo.nil.cnt + 1 + _ ≤ _; omega
        split at h
        · split at h
          · cases hc : chunksF (s.length + 1) j s with
            | error e => rw [hc] at h; cases h
            | ok z =>
              obtain ⟨t0, q0⟩ := z
              have := chunks_len hc
              rw [hc] at h
              cases h
              show Fo.nil.cnt + 1 + _ ≤ _
              omega
          · split at h
            · cases h
            · cases h
              show Fo.nil.cnt + 1 + _ ≤ _
              rw [List.length_drop]
              omega
        split at h
        · cases hc : listF F tg n (d + 1) (if k = 31 then none else some a) false false s with
          | error e => rw [hc] at h; cases h
          | ok z =>
            obtain ⟨f, q0⟩ := z
            have := ih.2 _ _ _ _ _ _ _ hc
            rw [hc] at h
            cases h
            show f.cnt + 1 + _ ≤ _
            omega
        split at h
        · cases hc : listF F tg n (d + 1) (if k = 31 then none else some a) true false s with
          | error e => rw [hc] at h; cases h
          | ok z =>
            obtain ⟨f, q0⟩ := z
            have := ih.2 _ _ _ _ _ _ _ hc
            rw [hc] at h
            cases h
            show f.cnt + 1 + _ ≤ _
            omega
        split at h
        · cases hc : itemF F tg n (d + 1) s with
          | error e => rw [hc] at h; cases h
          | ok z =>
            obtain ⟨⟨h0, f⟩, q0⟩ := z
            have := ih.1 _ _ _ _ hc
            rw [hc] at h
            cases h
            simp only at this
            show (1 + f.cnt + Fo.nil.cnt) + 1 + _ ≤ _
            omega
        cases ho : F.oth k a with
        | none => rw [ho] at h; cases h
        | some h0 =>
          rw [ho] at h
          cases h
          show Fo.nil.cnt + 1 + _ ≤ _
          omega
    · rw [listF] at h
      have e0 : Fo.nil.cnt = 0 := rfl
      split at h
      · cases h; omega
      split at h
      · cases h
        rw [List.length_tail]
        omega
      cases hc : itemF F tg n d l with
      | error e => rw [hc] at h; cases h
      | ok z =>
        obtain ⟨⟨h0, f0⟩, s⟩ := z
        have i1 := ih.1 _ _ _ _ hc
        rw [hc] at h
        simp only at h i1
        cases hg : listF F tg n d (less c p o) p (!o) s with
        | error e => rw [hg] at h; cases h
        | ok y =>
          obtain ⟨g, q0⟩ := y
          have i2 := ih.2 _ _ _ _ _ _ _ hg
          rw [hg] at h
          cases h
          show (1 + f0.cnt + g.cnt) + _ ≤ _
          omega
/-- All heads are of a kind of heads. -/
def AllH (P : Hd → Prop) : Fo → Prop
  | .nil => True
  | .cons h k r => P h ∧ AllH P k ∧ AllH P r
theorem both_heads {F : Lf} {tg : Nat → Hd} (P : Hd → Prop) (hnum : ∀ a, P (F.num a)) (hneg : ∀ a, P (F.neg a)) (hstr : ∀ j t, (j = 2 ∨ j = 3) → P (F.str j t)) (hoth : ∀ k a h, F.oth k a = some h → P h) (htg : ∀ a, P (tg a)) (harr : P arrC) (hmap : P mapC) :
    ∀ n, (∀ (d : Nat) (l : List UInt8) (x : Hd × Fo) (r : List UInt8), itemF F tg n d l = .ok (x, r) → P x.1 ∧ AllH P x.2) ∧
    (∀ (d : Nat) (c : Option Nat) (p o : Bool) (l : List UInt8) (f : Fo) (r : List UInt8), listF F tg n d c p o l = .ok (f, r) → AllH P f)
  | 0 => ⟨fun _ _ _ _ h => (by rw [itemF] at h; cases h), fun _ _ _ _ _ _ _ h => (by rw [listF] at h; cases h)⟩
  | n + 1 => by
    have ih := both_heads P hnum hneg hstr hoth htg harr hmap n
    refine ⟨fun d l x r h => ?_, fun d c p o l f r h => ?_⟩
    · rw [itemF] at h
      split at h
      · cases h
      cases hr : rdL l with
      | error e => rw [hr] at h; cases h
      | ok y =>
        obtain ⟨j, k, a, s⟩ := y
        rw [hr] at h
        simp only at h
        split at h
        · cases h
        split at h
        · cases h; exact ⟨hnum a, trivial⟩
        split at h
        · cases h; exact ⟨hneg a, trivial⟩
        split at h
        · rename_i hj
          split at h
          · cases hc : chunksF (s.length + 1) j s with
            | error e => rw [hc] at h; cases h
            | ok z =>
              obtain ⟨t0, q0⟩ := z
              rw [hc] at h
              cases h
              exact ⟨hstr j t0 hj, trivial⟩
          · split at h
            · cases h
            · cases h
              exact ⟨hstr j _ hj, trivial⟩
        split at h
        · cases hc : listF F tg n (d + 1) (if k = 31 then none else some a) false false s with
          | error e => rw [hc] at h; cases h
          | ok z =>
            obtain ⟨f, q0⟩ := z
            have := ih.2 _ _ _ _ _ _ _ hc
            rw [hc] at h
            cases h
            exact ⟨harr, this⟩
        split at h
        · cases hc : listF F tg n (d + 1) (if k = 31 then none else some a) true false s with
          | error e => rw [hc] at h; cases h
          | ok z =>
            obtain ⟨f, q0⟩ := z
            have := ih.2 _ _ _ _ _ _ _ hc
            rw [hc] at h
            cases h
            exact ⟨hmap, this⟩
        split at h
        · cases hc : itemF F tg n (d + 1) s with
          | error e => rw [hc] at h; cases h
          | ok z =>
            obtain ⟨⟨h0, f⟩, q0⟩ := z
            have := ih.1 _ _ _ _ hc
            rw [hc] at h
            cases h
            exact ⟨htg a, this.1, this.2, trivial⟩
        cases ho : F.oth k a with
        | none => rw [ho] at h; cases h
        | some h0 =>
          rw [ho] at h
          cases h
          exact ⟨hoth k a h0 ho, trivial⟩
    · rw [listF] at h
      split at h
      · cases h; trivial
      split at h
      · cases h; trivial
      cases hc : itemF F tg n d l with
      | error e => rw [hc] at h; cases h
      | ok z =>
        obtain ⟨⟨h0, f0⟩, s⟩ := z
        have i1 := ih.1 _ _ _ _ hc
        rw [hc] at h
        simp only at h i1
        cases hg : listF F tg n d (less c p o) p (!o) s with
        | error e => rw [hg] at h; cases h
        | ok y =>
          obtain ⟨g, q0⟩ := y
          have i2 := ih.2 _ _ _ _ _ _ _ hg
          rw [hg] at h
          cases h
          exact ⟨i1.1, i1.2, i2⟩
section
variable {F : Lf} {tg : Nat → Hd}
theorem itemL_cnt {d : Nat} {l : List UInt8} {x : Hd × Fo} {r : List UInt8} (h : itemL F tg d l = .ok (x, r)) : x.2.cnt + 1 + r.length ≤ l.length := (both_cnt F tg _).1 _ _ _ _ h
/-- An empty text asks for more. -/
theorem itemL_nil (d : Nat) : itemL F tg d [] = .error 100 := by
  rw [itemL, itemF, if_neg (by simp)]
  rfl
end
end Go.Proofs.YtppapkpceejnkaaGreatDoor
namespace Go.Proofs.YtppapkpceejnkaaGreatDoor
open Go.RowKit

theorem allGl_of : ∀ (f : Fo), f.cnt < 1353245080301 → AllG Gl f
  | .nil, _ => trivial
  | .cons h k r, hc => by
    simp only [Fo.cnt] at hc
    have hk := len_cnt k
    exact ⟨show k.len < _ by omega, allGl_of k (by omega), allGl_of r (by omega)⟩
theorem allGl_item {F : Lf} {tg : Nat → Hd} {d : Nat} {l : List UInt8} {x : Hd × Fo} {r : List UInt8} (h : itemL F tg d l = .ok (x, r)) (hl : l.length < 1353245080301) : AllG Gl (.cons x.1 x.2 .nil) := by
  have hc := itemL_cnt h
  exact allGl_of _ (by simp only [Fo.cnt]; omega)
/-- Bytes parted: so many, and so many, and the others. -/
def partsL : List Nat → List UInt8 → List (List UInt8)
  | [], r => [r]
  | k :: ks, r => r.take k :: partsL ks (r.drop k)
theorem parts_flat : ∀ (ks : List Nat) (r : List UInt8), (partsL ks r).flatten = r
  | [], r => by simp [partsL]
  | k :: ks, r => by rw [partsL, List.flatten_cons, parts_flat ks, List.take_append_drop]
theorem parts_len : ∀ (ks : List Nat) (r : List UInt8), ∀ p ∈ partsL ks r, p.length ≤ r.length
  | [], r, p, h => by
    rw [partsL, List.mem_singleton] at h
    rw [h]
    exact Nat.le_refl _
  | k :: ks, r, p, h => by
    rw [partsL, List.mem_cons] at h
    rcases h with rfl | h
    · rw [List.length_take]; omega
    · have := parts_len ks _ p h
      rw [List.length_drop] at this
      omega
theorem chB_append (m : Nat) : ∀ (a b : List (List UInt8)), chB m (a ++ b) = chB m a ++ chB m b
  | [], b => rfl
  | p :: r, b => by rw [List.cons_append, chB, chB, chB_append m r b, List.append_assoc, List.append_assoc]
section
variable {F : Lf} {tg : Nat → Hd}
/-- Bytes in chunks are those bytes, however they are parted. -/
theorem str_parts {m : Nat} (hm : m = 2 ∨ m = 3) (ks : List Nat) (s : List UInt8) (hs : s.length < 18446744073709551616) :
    itemL F tg 1 (UInt8.ofNat (32 * m + 31) :: (chB m (partsL ks s) ++ [255])) = .ok ((F.str m s, .nil), []) ∧ itemL F tg 1 (headL m s.length ++ s) = .ok ((F.str m s, .nil), []) := by
  refine ⟨?_, ?_⟩
  · have := str_open (F := F) (tg := tg) hm (partsL ks s) [] (fun p hp => by have := parts_len ks s p hp; omega)
    rwa [parts_flat] at this
  · have := str_def (F := F) (tg := tg) hm s [] hs
    rwa [List.append_nil] at this
end
end Go.Proofs.YtppapkpceejnkaaGreatDoor
