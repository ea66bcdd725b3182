/-
  A dictionary as a value: its entries, what is wrong of them, the search for a place, the values and what is done to them.
-/
import Derived.Test.YtcbffoablononaaDoorEntFns
namespace Go.Proofs.YtcbffoablononaaDoor
namespace Dic
open Go.RowKit Mem Ent
set_option linter.unusedVariables false
set_option linter.unusedSimpArgs false

/-- An entry as a value. -/
structure Ev where
  ix : Int
  sub : Int
  nm : List UInt8
  ty : Int
  ac : Int
  mp : Bool
  st : Bool
  mx : Int
  lo : Int
  hi : Int
  d : List UInt8
def Ev.zero : Ev := ⟨0, 0, [], 0, 0, false, false, 0, 0, 0, []⟩
def Ev.right (e : Ev) : Int := rightN e.ix e.sub e.nm e.ty e.ac e.mp e.st e.mx e.lo e.hi e.d
def Ev.val (e : Ev) (bs : List UInt8) : Int := valN e.ty e.mx e.lo e.hi bs
def Ev.bef (a b : Ev) : Bool := befB a.ix a.sub b.ix b.sub
def at_ (l : List Ev) (i : Nat) : Ev := l.getD i Ev.zero
theorem at_lt {l : List Ev} {i : Nat} (h : i < l.length) : at_ l i = l[i] := by simp [at_, h]

theorem bef_iff (i s j u : Int) : befB i s j u = true ↔ (i < j ∨ (i = j ∧ s < u)) := by
  unfold befB
  simp
theorem bef_no (i s j u : Int) : befB i s j u = false ↔ ¬ (i < j ∨ (i = j ∧ s < u)) := by
  rw [← bef_iff]
  cases befB i s j u <;> simp

/-- A right entry's default is a value of it. -/
theorem right_val {e : Ev} (h : e.right = 0) : e.val e.d = 0 := by
  unfold Ev.right rightN at h
  unfold Ev.val
  repeat' (split at h)
  all_goals first | omega | (rename_i h1; simpa using h1) | skip

/-- What is wrong of the entry of number i. -/
def bad (l : List Ev) (i : Nat) : Int := if (at_ l i).right ≠ 0 then (at_ l i).right else if 0 < i ∧ (at_ l (i - 1)).bef (at_ l i) = false then 16 else 0
def Fine (l : List Ev) (n : Nat) : Prop := ∀ i, i < n → bad l i = 0
theorem Fine.zero (l : List Ev) : Fine l 0 := fun i h => by omega
theorem Fine.next {l : List Ev} {n : Nat} (h : Fine l n) (hb : bad l n = 0) : Fine l (n + 1) := fun i hi => by
  rcases Nat.lt_or_ge i n with h1 | h1
  · exact h i h1
  · obtain rfl : i = n := by omega
    exact hb
theorem Fine.mono {l : List Ev} {n m : Nat} (h : Fine l n) (hm : m ≤ n) : Fine l m := fun i hi => h i (by omega)
theorem Fine.right {l : List Ev} {n i : Nat} (h : Fine l n) (hi : i < n) : (at_ l i).right = 0 := by
  have := h i hi
  unfold bad at this
  by_cases e : (at_ l i).right = 0
  · exact e
  · rw [if_pos e] at this
    exact this
theorem Fine.step {l : List Ev} {n i : Nat} (h : Fine l n) (hi : i + 1 < n) : (at_ l i).bef (at_ l (i + 1)) = true := by
  have h1 := h (i + 1) hi
  unfold bad at h1
  rw [if_neg (by rw [h.right hi]; simp)] at h1
  cases e : (at_ l i).bef (at_ l (i + 1)) with
  | true => rfl
  | false =>
    rw [if_pos ⟨by omega, by simpa using e⟩] at h1
    cases h1
theorem bef_trans {a b c : Ev} (h1 : a.bef b = true) (h2 : b.bef c = true) : a.bef c = true := by
  unfold Ev.bef at *
  rw [bef_iff] at *
  omega
theorem Fine.bef {l : List Ev} {n : Nat} (h : Fine l n) : ∀ j, j < n → ∀ i, i < j → (at_ l i).bef (at_ l j) = true := by
  intro j
  induction j with
  | zero => intro _ i hi; omega
  | succ j ih =>
    intro hj i hi
    have hs := h.step hj
    rcases Nat.lt_or_ge i j with h1 | h1
    · exact bef_trans (ih (by omega) i h1) hs
    · obtain rfl : i = j := by omega
      exact hs
theorem Fine.uniq {l : List Ev} {n i j : Nat} (h : Fine l n) (hi : i < n) (hj : j < n) (e1 : (at_ l i).ix = (at_ l j).ix) (e2 : (at_ l i).sub = (at_ l j).sub) : i = j := by
  rcases Nat.lt_trichotomy i j with h1 | h1 | h1
  · have := h.bef j hj i h1
    unfold Ev.bef at this
    rw [bef_iff] at this
    omega
  · exact h1
  · have := h.bef i hi j h1
    unfold Ev.bef at this
    rw [bef_iff] at this
    omega

/-- What New answers: the error, and where. -/
def newA (l : List Ev) : Int × Int :=
  if 96 < l.length then (3, 96) else match (List.range l.length).find? (fun i => bad l i != 0) with
    | some i => (bad l i, (i : Int))
    | none => (0, 0)
theorem newA_big {l : List Ev} (h : 96 < l.length) : newA l = (3, 96) := if_pos h
theorem find_first (p : Nat → Bool) : ∀ (n i : Nat), i < n → (∀ j, j < i → p j = false) → p i = true → (List.range n).find? p = some i := by
  intro n i hi hj hp
  rw [List.find?_range_eq_some]
  exact ⟨hp, by simpa using hi, fun j hji => by simp [hj j hji]⟩
theorem newA_bad {l : List Ev} {i : Nat} (h : l.length ≤ 96) (hi : i < l.length) (hf : Fine l i) (hb : bad l i ≠ 0) : newA l = (bad l i, (i : Int)) := by
  unfold newA
  rw [if_neg (by omega), find_first _ l.length i hi (fun j hj => by simp [hf j hj]) (by simpa using hb)]
theorem newA_ok {l : List Ev} (h : l.length ≤ 96) (hf : Fine l l.length) : newA l = (0, 0) := by
  unfold newA
  rw [if_neg (by omega)]
  have : (List.range l.length).find? (fun i => bad l i != 0) = none := by
    rw [List.find?_eq_none]
    intro i hi
    simp [hf i (List.mem_range.1 hi)]
  rw [this]
theorem newA_zero {l : List Ev} (h : (newA l).1 = 0) : l.length ≤ 96 ∧ Fine l l.length := by
  unfold newA at h
  by_cases h1 : 96 < l.length
  · rw [if_pos h1] at h; simp at h
  · rw [if_neg h1] at h
    refine ⟨by omega, fun i hi => ?_⟩
    cases hq : (List.range l.length).find? (fun i => bad l i != 0) with
    | none =>
      have := List.find?_eq_none.1 hq i (List.mem_range.2 hi)
      simpa using this
    | some k =>
      rw [hq] at h
      have := List.find?_some hq
      simp at this h
      omega

/-- The number of the entry of a place; -1: there is none; -2: none has that index. -/
def fndTo (l : List Ev) (ix sub : Int) : Nat → Int
  | 0 => -2
  | i + 1 => if (at_ l i).ix = ix then (if (at_ l i).sub = sub then (i : Int) else if fndTo l ix sub i = -2 then -1 else fndTo l ix sub i) else fndTo l ix sub i
def fnd (l : List Ev) (ix sub : Int) : Int := fndTo l ix sub l.length
theorem fndTo_spec (l : List Ev) (ix sub : Int) : ∀ n, (fndTo l ix sub n = -2 ∧ ∀ i, i < n → (at_ l i).ix ≠ ix) ∨
    (fndTo l ix sub n = -1 ∧ (∃ i, i < n ∧ (at_ l i).ix = ix) ∧ ∀ i, i < n → ¬ ((at_ l i).ix = ix ∧ (at_ l i).sub = sub)) ∨
    (∃ i, i < n ∧ fndTo l ix sub n = (i : Int) ∧ (at_ l i).ix = ix ∧ (at_ l i).sub = sub) := by
  intro n
  induction n with
  | zero => left; exact ⟨rfl, fun i h => by omega⟩
  | succ n ih =>
    by_cases h1 : (at_ l n).ix = ix
    · by_cases h2 : (at_ l n).sub = sub
      · right; right
        exact ⟨n, by omega, by unfold fndTo; rw [if_pos h1, if_pos h2], h1, h2⟩
      · rcases ih with ⟨e, h⟩ | ⟨e, h, h'⟩ | ⟨i, hi, e, e1, e2⟩
        · right; left
          refine ⟨by unfold fndTo; rw [if_pos h1, if_neg h2, if_pos e], ⟨n, by omega, h1⟩, fun i hi => ?_⟩
          rcases Nat.lt_or_ge i n with h3 | h3
          · exact fun hh => h i h3 hh.1
          · obtain rfl : i = n := by omega
            exact fun hh => h2 hh.2
        · right; left
          refine ⟨by unfold fndTo; rw [if_pos h1, if_neg h2, if_neg (by omega)]; exact e, ⟨n, by omega, h1⟩, fun i hi => ?_⟩
          rcases Nat.lt_or_ge i n with h3 | h3
          · exact h' i h3
          · obtain rfl : i = n := by omega
            exact fun hh => h2 hh.2
        · right; right
          exact ⟨i, by omega, by unfold fndTo; rw [if_pos h1, if_neg h2, if_neg (by omega)]; exact e, e1, e2⟩
    · have e0 : fndTo l ix sub (n + 1) = fndTo l ix sub n := by
        conv => lhs; unfold fndTo
        rw [if_neg h1]
      rw [e0]
      rcases ih with ⟨e, h⟩ | ⟨e, ⟨i, hi, h⟩, h'⟩ | ⟨i, hi, e, e1, e2⟩
      · left
        refine ⟨e, fun i hi => ?_⟩
        rcases Nat.lt_or_ge i n with h3 | h3
        · exact h i h3
        · obtain rfl : i = n := by omega
          exact h1
      · right; left
        refine ⟨e, ⟨i, by omega, h⟩, fun i hi => ?_⟩
        rcases Nat.lt_or_ge i n with h3 | h3
        · exact h' i h3
        · obtain rfl : i = n := by omega
          exact fun hh => h1 hh.1
      · right; right
        exact ⟨i, by omega, e, e1, e2⟩
theorem fnd_at {l : List Ev} {ix sub : Int} {i : Nat} (hf : Fine l l.length) (hi : i < l.length) (e1 : (at_ l i).ix = ix) (e2 : (at_ l i).sub = sub) : fnd l ix sub = (i : Int) := by
  rcases fndTo_spec l ix sub l.length with ⟨_, h⟩ | ⟨_, _, h⟩ | ⟨j, hj, e, f1, f2⟩
  · exact absurd e1 (h i hi)
  · exact absurd ⟨e1, e2⟩ (h i hi)
  · obtain rfl : j = i := hf.uniq hj hi (f1.trans e1.symm) (f2.trans e2.symm)
    exact e
theorem fnd_none {l : List Ev} {ix sub : Int} {i : Nat} (hi : i < l.length) (e1 : (at_ l i).ix = ix) (h : ∀ i, i < l.length → ¬ ((at_ l i).ix = ix ∧ (at_ l i).sub = sub)) : fnd l ix sub = -1 := by
  rcases fndTo_spec l ix sub l.length with ⟨_, h'⟩ | ⟨e, _, _⟩ | ⟨j, hj, e, f1, f2⟩
  · exact absurd e1 (h' i hi)
  · exact e
  · exact absurd ⟨f1, f2⟩ (h j hj)
theorem fnd_far {l : List Ev} {ix sub : Int} (h : ∀ i, i < l.length → (at_ l i).ix ≠ ix) : fnd l ix sub = -2 := by
  rcases fndTo_spec l ix sub l.length with ⟨e, _⟩ | ⟨_, ⟨i, hi, e⟩, _⟩ | ⟨j, hj, e, f1, f2⟩
  · exact e
  · exact absurd e (h i hi)
  · exact absurd f1 (h j hj)
theorem fnd_cases (l : List Ev) (ix sub : Int) : fnd l ix sub = -2 ∨ fnd l ix sub = -1 ∨ ∃ i : Nat, i < l.length ∧ fnd l ix sub = (i : Int) ∧ (at_ l i).ix = ix ∧ (at_ l i).sub = sub := by
  rcases fndTo_spec l ix sub l.length with ⟨e, _⟩ | ⟨e, _, _⟩ | h
  · exact .inl e
  · exact .inr (.inl e)
  · exact .inr (.inr h)

/-- Number k is where a place is, or would be: all ahead stand ahead of it, k and those behind do not. -/
structure Low (l : List Ev) (ix sub : Int) (k : Nat) : Prop where
  le : k ≤ l.length
  lt : ∀ i, i < k → befB (at_ l i).ix (at_ l i).sub ix sub = true
  ge : ∀ i, k ≤ i → i < l.length → befB (at_ l i).ix (at_ l i).sub ix sub = false
theorem Low.at {l : List Ev} {ix sub : Int} {k : Nat} (h : Low l ix sub k) (hf : Fine l l.length) (hk : k < l.length) (e1 : (at_ l k).ix = ix) (e2 : (at_ l k).sub = sub) : fnd l ix sub = (k : Int) := fnd_at hf hk e1 e2
theorem Low.only {l : List Ev} {ix sub : Int} {k i : Nat} (h : Low l ix sub k) (hf : Fine l l.length) (hi : i < l.length) (e1 : (at_ l i).ix = ix) (e2 : (at_ l i).sub = sub) : i = k := by
  rcases Nat.lt_trichotomy i k with h1 | h1 | h1
  · have := h.lt i h1
    rw [bef_iff] at this
    omega
  · exact h1
  · have h2 := h.ge k (Nat.le_refl _) (by omega)
    have h3 := hf.bef i hi k h1
    unfold Ev.bef at h3
    rw [bef_no] at h2
    rw [bef_iff] at h3
    omega
/-- There is an entry of that index only right at k, or right ahead of it. -/
theorem Low.near {l : List Ev} {ix sub : Int} {k i : Nat} (h : Low l ix sub k) (hf : Fine l l.length) (hi : i < l.length) (e1 : (at_ l i).ix = ix) : (k < l.length ∧ (at_ l k).ix = ix) ∨ (0 < k ∧ (at_ l (k - 1)).ix = ix) := by
  rcases Nat.lt_or_ge i k with h1 | h1
  · right
    refine ⟨by omega, ?_⟩
    have h2 := h.lt (k - 1) (by omega)
    rw [bef_iff] at h2
    rcases Nat.lt_or_ge i (k - 1) with h3 | h3
    · have h4 := hf.bef (k - 1) (by have := h.le; omega) i h3
      unfold Ev.bef at h4
      rw [bef_iff] at h4
      omega
    · obtain rfl : i = k - 1 := by omega
      exact e1
  · left
    refine ⟨by omega, ?_⟩
    have h2 := h.ge k (Nat.le_refl _) (by omega)
    rw [bef_no] at h2
    rcases Nat.lt_or_ge k i with h3 | h3
    · have h4 := hf.bef i hi k h3
      unfold Ev.bef at h4
      rw [bef_iff] at h4
      omega
    · obtain rfl : i = k := by omega
      exact e1
theorem Low.none {l : List Ev} {ix sub : Int} {k : Nat} (h : Low l ix sub k) (hf : Fine l l.length) (hk : ¬ (k < l.length ∧ (at_ l k).ix = ix ∧ (at_ l k).sub = sub)) :
    fnd l ix sub = if (k < l.length ∧ (at_ l k).ix = ix) ∨ (0 < k ∧ (at_ l (k - 1)).ix = ix) then -1 else -2 := by
  have hno : ∀ i, i < l.length → ¬ ((at_ l i).ix = ix ∧ (at_ l i).sub = sub) := fun i hi e => by
    obtain rfl := h.only hf hi e.1 e.2
    exact hk ⟨hi, e⟩
  by_cases hn : (k < l.length ∧ (at_ l k).ix = ix) ∨ (0 < k ∧ (at_ l (k - 1)).ix = ix)
  · rw [if_pos hn]
    rcases hn with ⟨h1, h2⟩ | ⟨h1, h2⟩
    · exact fnd_none h1 h2 hno
    · exact fnd_none (by have := h.le; omega) h2 hno
  · rw [if_neg hn]
    exact fnd_far fun i hi e => hn (h.near hf hi e)
/-- How a search halves. -/
theorem Low.from_le {l : List Ev} {ix sub : Int} {n i j : Nat} (hf : Fine l n) (hj : j < n) (hij : i ≤ j) (h : befB (at_ l j).ix (at_ l j).sub ix sub = true) : befB (at_ l i).ix (at_ l i).sub ix sub = true := by
  rcases Nat.lt_or_ge i j with h1 | h1
  · have := hf.bef j hj i h1
    unfold Ev.bef at this
    rw [bef_iff] at *
    omega
  · obtain rfl : i = j := by omega
    exact h
theorem Low.from_ge {l : List Ev} {ix sub : Int} {n i j : Nat} (hf : Fine l n) (hi : i < n) (hij : j ≤ i) (h : befB (at_ l j).ix (at_ l j).sub ix sub = false) : befB (at_ l i).ix (at_ l i).sub ix sub = false := by
  cases e : befB (at_ l i).ix (at_ l i).sub ix sub with
  | false => rfl
  | true => rw [Low.from_le hf hi hij e] at h; cases h

/-- A dictionary's state: entries, and values. -/
structure Ds where
  l : List Ev
  v : List (List UInt8)
def vat (v : List (List UInt8)) (i : Nat) : List UInt8 := v.getD i []
def miss (k : Int) : Int := if k = -2 then 100794368 else 101253137
def Ds.get (s : Ds) (ix sub : Int) : List UInt8 × Int :=
  if fnd s.l ix sub < 0 then ([], miss (fnd s.l ix sub)) else if readN (at_ s.l (fnd s.l ix sub).toNat).ac ≠ 0 then ([], readN (at_ s.l (fnd s.l ix sub).toNat).ac) else (vat s.v (fnd s.l ix sub).toNat, 0)
def Ds.poke (s : Ds) (ix sub : Int) (b : List UInt8) : Int := if fnd s.l ix sub < 0 then miss (fnd s.l ix sub) else (at_ s.l (fnd s.l ix sub).toNat).val b
def Ds.may (s : Ds) (ix sub : Int) (b : List UInt8) : Int :=
  if fnd s.l ix sub < 0 then miss (fnd s.l ix sub) else if writeN (at_ s.l (fnd s.l ix sub).toNat).ac ≠ 0 then writeN (at_ s.l (fnd s.l ix sub).toNat).ac else (at_ s.l (fnd s.l ix sub).toNat).val b
def Ds.peek (s : Ds) (ix sub : Int) : List UInt8 × Bool := if fnd s.l ix sub < 0 then ([], false) else (vat s.v (fnd s.l ix sub).toNat, true)
def Ds.put (s : Ds) (k : Nat) (b : List UInt8) : Ds := { s with v := s.v.set k b }
/-- The state behind a Set, or a Poke, that answered c. -/
def Ds.upon (s : Ds) (c ix sub : Int) (b : List UInt8) : Ds := if c = 0 then s.put (fnd s.l ix sub).toNat b else s
def Ds.reset (s : Ds) : Ds := { s with v := s.l.map (·.d) }
def first (l : List Ev) : Ds := ⟨l, l.map (·.d)⟩
/-- What is so of each dictionary, always. -/
structure Inv (s : Ds) : Prop where
  len : s.v.length = s.l.length
  few : s.l.length ≤ 96
  fine : Fine s.l s.l.length
  ok : ∀ i, i < s.l.length → (at_ s.l i).val (vat s.v i) = 0
theorem inv_first {l : List Ev} (h : (newA l).1 = 0) : Inv (first l) := by
  obtain ⟨h1, h2⟩ := newA_zero h
  refine ⟨by simp [first], h1, h2, fun i hi => ?_⟩
  have h3 := right_val (h2.right hi)
  have hi' : i < l.length := hi
  have e : vat (first l).v i = (at_ l i).d := by simp [first, vat, at_, hi']
  rw [e]
  exact h3
theorem Inv.reset {s : Ds} (h : Inv s) : Inv s.reset := by
  refine ⟨by simp [Ds.reset], h.few, h.fine, fun i hi => ?_⟩
  have hi' : i < s.l.length := hi
  have h3 := right_val (h.fine.right hi')
  have e : vat s.reset.v i = (at_ s.l i).d := by simp [Ds.reset, vat, at_, hi']
  rw [e]
  exact h3
theorem vat_set (v : List (List UInt8)) (k i : Nat) (b : List UInt8) (hk : k < v.length) : vat (v.set k b) i = if i = k then b else vat v i := by
  unfold vat
  by_cases e : i = k
  · subst e
    simp [hk]
  · rw [if_neg e]
    simp [List.getElem?_set, Ne.symm e]
theorem Inv.put {s : Ds} (h : Inv s) {k : Nat} {b : List UInt8} (hk : k < s.l.length) (hb : (at_ s.l k).val b = 0) : Inv (s.put k b) := by
  refine ⟨by simp [Ds.put, h.len], h.few, h.fine, fun i hi => ?_⟩
  have hi' : i < s.l.length := hi
  have e : vat (s.put k b).v i = if i = k then b else vat s.v i := vat_set s.v k i b (by rw [h.len]; exact hk)
  rw [e]
  by_cases ei : i = k
  · subst ei
    rw [if_pos rfl]
    exact hb
  · rw [if_neg ei]
    exact h.ok i hi'
theorem miss_ne (k : Int) : miss k ≠ 0 := by unfold miss; split <;> decide
theorem poke_zero {s : Ds} {ix sub : Int} {b : List UInt8} (h : s.poke ix sub b = 0) : ∃ k : Nat, k < s.l.length ∧ fnd s.l ix sub = (k : Int) ∧ (at_ s.l k).ix = ix ∧ (at_ s.l k).sub = sub ∧ (at_ s.l k).val b = 0 := by
  unfold Ds.poke at h
  rcases fnd_cases s.l ix sub with e | e | ⟨k, hk, e, e1, e2⟩
  · rw [if_pos (by omega)] at h; exact absurd h (miss_ne _)
  · rw [if_pos (by omega)] at h; exact absurd h (miss_ne _)
  · rw [if_neg (by omega), e] at h
    exact ⟨k, hk, e, e1, e2, by simpa using h⟩
theorem may_zero {s : Ds} {ix sub : Int} {b : List UInt8} (h : s.may ix sub b = 0) : s.poke ix sub b = 0 := by
  unfold Ds.may at h
  unfold Ds.poke
  by_cases h1 : fnd s.l ix sub < 0
  · rw [if_pos h1] at h; exact absurd h (miss_ne _)
  · rw [if_neg h1] at h ⊢
    by_cases h2 : writeN (at_ s.l (fnd s.l ix sub).toNat).ac = 0
    · rw [if_neg (by omega)] at h
      exact h
    · rw [if_pos h2] at h
      exact absurd h h2
theorem Inv.upon {s : Ds} (h : Inv s) {c ix sub : Int} {b : List UInt8} (hc : c = 0 → s.poke ix sub b = 0) : Inv (s.upon c ix sub b) := by
  unfold Ds.upon
  by_cases e : c = 0
  · rw [if_pos e]
    obtain ⟨k, hk, ek, _, _, hv⟩ := poke_zero (hc e)
    rw [ek]
    exact h.put hk hv
  · rw [if_neg e]
    exact h
end Dic
end Go.Proofs.YtcbffoablononaaDoor
