/-
  A dictionary as a value: its entries, what is wrong of them, the search for a place, the values and what is done to them.
  Lists of structs in memory; a dictionary: the block of its struct, its row, the bytes of its rows, which lie apart from all blocks that are written to.
-/
import Derived.Test.YtpdnfdpoebhjoaaDoorEntFns
import Derived.Test.YtpdnfdpoebhjoaaDoorEntLift
import Derived.Test.YtpdnfdpoebhjoaaDoorOctAux
import Derived.Test.YtpdnfdpoebhjoaaDoorClone
namespace Go.Proofs.YtpdnfdpoebhjoaaDoor
namespace Dic
open Go.RowKit Mem Ent
set_option linter.unusedVariables false
set_option linter.unusedSimpArgs false

/-- An entry as a value. -/
structure Ev where
  ix : Int
  sub : Int
  nm : List UInt8
  ty : Int
  ac : Int
  mp : Bool
  st : Bool
  mx : Int
  lo : Int
  hi : Int
  d : List UInt8
def Ev.zero : Ev := ⟨0, 0, [], 0, 0, false, false, 0, 0, 0, []⟩
def Ev.right (e : Ev) : Int := rightN e.ix e.sub e.nm e.ty e.ac e.mp e.st e.mx e.lo e.hi e.d
def Ev.val (e : Ev) (bs : List UInt8) : Int := valN e.ty e.mx e.lo e.hi bs
def Ev.bef (a b : Ev) : Bool := befB a.ix a.sub b.ix b.sub
def at_ (l : List Ev) (i : Nat) : Ev := l.getD i Ev.zero
theorem at_lt {l : List Ev} {i : Nat} (h : i < l.length) : at_ l i = l[i] := by simp [at_, h]

theorem bef_iff (i s j u : Int) : befB i s j u = true ↔ (i < j ∨ (i = j ∧ s < u)) := by
  unfold befB
  simp
theorem bef_no (i s j u : Int) : befB i s j u = false ↔ ¬ (i < j ∨ (i = j ∧ s < u)) := by
  rw [← bef_iff]
  cases befB i s j u <;> simp

/-- A right entry's default is a value of it. -/
theorem right_val {e : Ev} (h : e.right = 0) : e.val e.d = 0 := by
  unfold Ev.right rightN at h
  unfold Ev.val
  repeat' (split at h)
  all_goals first | omega | (rename_i h1; simpa using h1) | skip

/-- What is wrong of the entry of number i. -/
def bad (l : List Ev) (i : Nat) : Int := if (at_ l i).right ≠ 0 then (at_ l i).right else if 0 < i ∧ (at_ l (i - 1)).bef (at_ l i) = false then 16 else 0
def Fine (l : List Ev) (n : Nat) : Prop := ∀ i, i < n → bad l i = 0
theorem Fine.zero (l : List Ev) : Fine l 0 := fun i h => by omega
theorem Fine.next {l : List Ev} {n : Nat} (h : Fine l n) (hb : bad l n = 0) : Fine l (n + 1) := fun i hi => by
  rcases Nat.lt_or_ge i n with h1 | h1
  · exact h i h1
  · obtain rfl : i = n := by omega
    exact hb
theorem Fine.mono {l : List Ev} {n m : Nat} (h : Fine l n) (hm : m ≤ n) : Fine l m := fun i hi => h i (by omega)
theorem Fine.right {l : List Ev} {n i : Nat} (h : Fine l n) (hi : i < n) : (at_ l i).right = 0 := by
  have := h i hi
  unfold bad at this
  by_cases e : (at_ l i).right = 0
  · exact e
  · rw [if_pos e] at this
    exact this
theorem Fine.step {l : List Ev} {n i : Nat} (h : Fine l n) (hi : i + 1 < n) : (at_ l i).bef (at_ l (i + 1)) = true := by
  have h1 := h (i + 1) hi
  unfold bad at h1
  rw [if_neg (by rw [h.right hi]; simp)] at h1
  cases e : (at_ l i).bef (at_ l (i + 1)) with
  | true => rfl
  | false =>
    rw [if_pos ⟨by omega, by simpa using e⟩] at h1
    cases h1
theorem bef_trans {a b c : Ev} (h1 : a.bef b = true) (h2 : b.bef c = true) : a.bef c = true := by
  unfold Ev.bef at *
  rw [bef_iff] at *
  omega
theorem Fine.bef {l : List Ev} {n : Nat} (h : Fine l n) : ∀ j, j < n → ∀ i, i < j → (at_ l i).bef (at_ l j) = true := by
  intro j
  induction j with
  | zero => intro _ i hi; omega
  | succ j ih =>
    intro hj i hi
    have hs := h.step hj
    rcases Nat.lt_or_ge i j with h1 | h1
    · exact bef_trans (ih (by omega) i h1) hs
    · obtain rfl : i = j := by omega
      exact hs
theorem Fine.uniq {l : List Ev} {n i j : Nat} (h : Fine l n) (hi : i < n) (hj : j < n) (e1 : (at_ l i).ix = (at_ l j).ix) (e2 : (at_ l i).sub = (at_ l j).sub) : i = j := by
  rcases Nat.lt_trichotomy i j with h1 | h1 | h1
  · have := h.bef j hj i h1
    unfold Ev.bef at this
    rw [bef_iff] at this
    omega
  · exact h1
  · have := h.bef i hi j h1
    unfold Ev.bef at this
    rw [bef_iff] at this
    omega

/-- What New answers: the error, and where. -/
def newA (l : List Ev) : Int × Int :=
  if 96 < l.length then (3, 96) else match (List.range l.length).find? (fun i => bad l i != 0) with
    | some i => (bad l i, (i : Int))
    | none => (0, 0)
theorem newA_big {l : List Ev} (h : 96 < l.length) : newA l = (3, 96) := if_pos h
theorem find_first (p : Nat → Bool) : ∀ (n i : Nat), i < n → (∀ j, j < i → p j = false) → p i = true → (List.range n).find? p = some i := by
  intro n i hi hj hp
  rw [List.find?_range_eq_some]
  exact ⟨hp, by simpa using hi, fun j hji => by simp [hj j hji]⟩
theorem newA_bad {l : List Ev} {i : Nat} (h : l.length ≤ 96) (hi : i < l.length) (hf : Fine l i) (hb : bad l i ≠ 0) : newA l = (bad l i, (i : Int)) := by
  unfold newA
  rw [if_neg (by omega), find_first _ l.length i hi (fun j hj => by simp [hf j hj]) (by simpa using hb)]
theorem newA_ok {l : List Ev} (h : l.length ≤ 96) (hf : Fine l l.length) : newA l = (0, 0) := by
  unfold newA
  rw [if_neg (by omega)]
  have : (List.range l.length).find? (fun i => bad l i != 0) = none := by
    rw [List.find?_eq_none]
    intro i hi
    simp [hf i (List.mem_range.1 hi)]
  rw [this]
theorem newA_zero {l : List Ev} (h : (newA l).1 = 0) : l.length ≤ 96 ∧ Fine l l.length := by
  unfold newA at h
  by_cases h1 : 96 < l.length
  · rw [if_pos h1] at h; simp at h
  · rw [if_neg h1] at h
    refine ⟨by omega, fun i hi => ?_⟩
    cases hq : (List.range l.length).find? (fun i => bad l i != 0) with
    | none =>
      have := List.find?_eq_none.1 hq i (List.mem_range.2 hi)
      simpa using this
    | some k =>
      rw [hq] at h
      have := List.find?_some hq
      simp at this h
      omega

/-- The number of the entry of a place; -1: there is none; -2: none has that index. -/
def fndTo (l : List Ev) (ix sub : Int) : Nat → Int
  | 0 => -2
  | i + 1 => if (at_ l i).ix = ix then (if (at_ l i).sub = sub then (i : Int) else if fndTo l ix sub i = -2 then -1 else fndTo l ix sub i) else fndTo l ix sub i
def fnd (l : List Ev) (ix sub : Int) : Int := fndTo l ix sub l.length
theorem fndTo_spec (l : List Ev) (ix sub : Int) : ∀ n, (fndTo l ix sub n = -2 ∧ ∀ i, i < n → (at_ l i).ix ≠ ix) ∨
    (fndTo l ix sub n = -1 ∧ (∃ i, i < n ∧ (at_ l i).ix = ix) ∧ ∀ i, i < n → ¬ ((at_ l i).ix = ix ∧ (at_ l i).sub = sub)) ∨
    (∃ i, i < n ∧ fndTo l ix sub n = (i : Int) ∧ (at_ l i).ix = ix ∧ (at_ l i).sub = sub) := by
  intro n
  induction n with
  | zero => left; exact ⟨rfl, fun i h => by omega⟩
  | succ n ih =>
    by_cases h1 : (at_ l n).ix = ix
    · by_cases h2 : (at_ l n).sub = sub
      · right; right
        exact ⟨n, by omega, by unfold fndTo; rw [if_pos h1, if_pos h2], h1, h2⟩
      · rcases ih with ⟨e, h⟩ | ⟨e, h, h'⟩ | ⟨i, hi, e, e1, e2⟩
        · right; left
          refine ⟨by unfold fndTo; rw [if_pos h1, if_neg h2, if_pos e], ⟨n, by omega, h1⟩, fun i hi => ?_⟩
          rcases Nat.lt_or_ge i n with h3 | h3
          · exact fun hh => h i h3 hh.1
          · obtain rfl : i = n := by omega
            exact fun hh => h2 hh.2
        · right; left
          refine ⟨by unfold fndTo; rw [if_pos h1, if_neg h2, if_neg (by omega)]; exact e, ⟨n, by omega, h1⟩, fun i hi => ?_⟩
          rcases Nat.lt_or_ge i n with h3 | h3
          · exact h' i h3
          · obtain rfl : i = n := by omega
            exact fun hh => h2 hh.2
        · right; right
          exact ⟨i, by omega, by unfold fndTo; rw [if_pos h1, if_neg h2, if_neg (by omega)]; exact e, e1, e2⟩
    · have e0 : fndTo l ix sub (n + 1) = fndTo l ix sub n := by
        conv => lhs; unfold fndTo
        rw [if_neg h1]
      rw [e0]
      rcases ih with ⟨e, h⟩ | ⟨e, ⟨i, hi, h⟩, h'⟩ | ⟨i, hi, e, e1, e2⟩
      · left
        refine ⟨e, fun i hi => ?_⟩
        rcases Nat.lt_or_ge i n with h3 | h3
        · exact h i h3
        · obtain rfl : i = n := by omega
          exact h1
      · right; left
        refine ⟨e, ⟨i, by omega, h⟩, fun i hi => ?_⟩
        rcases Nat.lt_or_ge i n with h3 | h3
        · exact h' i h3
        · obtain rfl : i = n := by omega
          exact fun hh => h1 hh.1
      · right; right
        exact ⟨i, by omega, e, e1, e2⟩
theorem fnd_at {l : List Ev} {ix sub : Int} {i : Nat} (hf : Fine l l.length) (hi : i < l.length) (e1 : (at_ l i).ix = ix) (e2 : (at_ l i).sub = sub) : fnd l ix sub = (i : Int) := by
  rcases fndTo_spec l ix sub l.length with ⟨_, h⟩ | ⟨_, _, h⟩ | ⟨j, hj, e, f1, f2⟩
  · exact absurd e1 (h i hi)
  · exact absurd ⟨e1, e2⟩ (h i hi)
  · obtain rfl : j = i := hf.uniq hj hi (f1.trans e1.symm) (f2.trans e2.symm)
    exact e
theorem fnd_none {l : List Ev} {ix sub : Int} {i : Nat} (hi : i < l.length) (e1 : (at_ l i).ix = ix) (h : ∀ i, i < l.length → ¬ ((at_ l i).ix = ix ∧ (at_ l i).sub = sub)) : fnd l ix sub = -1 := by
  rcases fndTo_spec l ix sub l.length with ⟨_, h'⟩ | ⟨e, _, _⟩ | ⟨j, hj, e, f1, f2⟩
  · exact absurd e1 (h' i hi)
  · exact e
  · exact absurd ⟨f1, f2⟩ (h j hj)
theorem fnd_far {l : List Ev} {ix sub : Int} (h : ∀ i, i < l.length → (at_ l i).ix ≠ ix) : fnd l ix sub = -2 := by
  rcases fndTo_spec l ix sub l.length with ⟨e, _⟩ | ⟨_, ⟨i, hi, e⟩, _⟩ | ⟨j, hj, e, f1, f2⟩
  · exact e
  · exact absurd e (h i hi)
  · exact absurd f1 (h j hj)
theorem fnd_cases (l : List Ev) (ix sub : Int) : fnd l ix sub = -2 ∨ fnd l ix sub = -1 ∨ ∃ i : Nat, i < l.length ∧ fnd l ix sub = (i : Int) ∧ (at_ l i).ix = ix ∧ (at_ l i).sub = sub := by
  rcases fndTo_spec l ix sub l.length with ⟨e, _⟩ | ⟨e, _, _⟩ | h
  · exact .inl e
  · exact .inr (.inl e)
  · exact .inr (.inr h)

/-- Number k is where a place is, or would be: all ahead stand ahead of it, k and those behind do not. -/
structure Low (l : List Ev) (ix sub : Int) (k : Nat) : Prop where
  le : k ≤ l.length
  lt : ∀ i, i < k → befB (at_ l i).ix (at_ l i).sub ix sub = true
  ge : ∀ i, k ≤ i → i < l.length → befB (at_ l i).ix (at_ l i).sub ix sub = false
theorem Low.at {l : List Ev} {ix sub : Int} {k : Nat} (h : Low l ix sub k) (hf : Fine l l.length) (hk : k < l.length) (e1 : (at_ l k).ix = ix) (e2 : (at_ l k).sub = sub) : fnd l ix sub = (k : Int) := fnd_at hf hk e1 e2
theorem Low.only {l : List Ev} {ix sub : Int} {k i : Nat} (h : Low l ix sub k) (hf : Fine l l.length) (hi : i < l.length) (e1 : (at_ l i).ix = ix) (e2 : (at_ l i).sub = sub) : i = k := by
  rcases Nat.lt_trichotomy i k with h1 | h1 | h1
  · have := h.lt i h1
    rw [bef_iff] at this
    omega
  · exact h1
  · have h2 := h.ge k (Nat.le_refl _) (by omega)
    have h3 := hf.bef i hi k h1
    unfold Ev.bef at h3
    rw [bef_no] at h2
    rw [bef_iff] at h3
    omega
/-- There is an entry of that index only right at k, or right ahead of it. -/
theorem Low.near {l : List Ev} {ix sub : Int} {k i : Nat} (h : Low l ix sub k) (hf : Fine l l.length) (hi : i < l.length) (e1 : (at_ l i).ix = ix) : (k < l.length ∧ (at_ l k).ix = ix) ∨ (0 < k ∧ (at_ l (k - 1)).ix = ix) := by
  rcases Nat.lt_or_ge i k with h1 | h1
  · right
    refine ⟨by omega, ?_⟩
    have h2 := h.lt (k - 1) (by omega)
    rw [bef_iff] at h2
    rcases Nat.lt_or_ge i (k - 1) with h3 | h3
    · have h4 := hf.bef (k - 1) (by have := h.le; omega) i h3
      unfold Ev.bef at h4
      rw [bef_iff] at h4
      omega
    · obtain rfl : i = k - 1 := by omega
      exact e1
  · left
    refine ⟨by omega, ?_⟩
    have h2 := h.ge k (Nat.le_refl _) (by omega)
    rw [bef_no] at h2
    rcases Nat.lt_or_ge k i with h3 | h3
    · have h4 := hf.bef i hi k h3
      unfold Ev.bef at h4
      rw [bef_iff] at h4
      omega
    · obtain rfl : i = k := by omega
      exact e1
theorem Low.none {l : List Ev} {ix sub : Int} {k : Nat} (h : Low l ix sub k) (hf : Fine l l.length) (hk : ¬ (k < l.length ∧ (at_ l k).ix = ix ∧ (at_ l k).sub = sub)) :
    fnd l ix sub = if (k < l.length ∧ (at_ l k).ix = ix) ∨ (0 < k ∧ (at_ l (k - 1)).ix = ix) then -1 else -2 := by
  have hno : ∀ i, i < l.length → ¬ ((at_ l i).ix = ix ∧ (at_ l i).sub = sub) := fun i hi e => by
    obtain rfl := h.only hf hi e.1 e.2
    exact hk ⟨hi, e⟩
  by_cases hn : (k < l.length ∧ (at_ l k).ix = ix) ∨ (0 < k ∧ (at_ l (k - 1)).ix = ix)
  · rw [if_pos hn]
    rcases hn with ⟨h1, h2⟩ | ⟨h1, h2⟩
    · exact fnd_none h1 h2 hno
    · exact fnd_none (by have := h.le; omega) h2 hno
  · rw [if_neg hn]
    exact fnd_far fun i hi e => hn (h.near hf hi e)
/-- How a search halves. -/
theorem Low.from_le {l : List Ev} {ix sub : Int} {n i j : Nat} (hf : Fine l n) (hj : j < n) (hij : i ≤ j) (h : befB (at_ l j).ix (at_ l j).sub ix sub = true) : befB (at_ l i).ix (at_ l i).sub ix sub = true := by
  rcases Nat.lt_or_ge i j with h1 | h1
  · have := hf.bef j hj i h1
    unfold Ev.bef at this
    rw [bef_iff] at *
    omega
  · obtain rfl : i = j := by omega
    exact h
theorem Low.from_ge {l : List Ev} {ix sub : Int} {n i j : Nat} (hf : Fine l n) (hi : i < n) (hij : j ≤ i) (h : befB (at_ l j).ix (at_ l j).sub ix sub = false) : befB (at_ l i).ix (at_ l i).sub ix sub = false := by
  cases e : befB (at_ l i).ix (at_ l i).sub ix sub with
  | false => rfl
  | true => rw [Low.from_le hf hi hij e] at h; cases h

/-- A dictionary's state: entries, and values. -/
structure Ds where
  l : List Ev
  v : List (List UInt8)
def vat (v : List (List UInt8)) (i : Nat) : List UInt8 := v.getD i []
def miss (k : Int) : Int := if k = -2 then 100794368 else 101253137
def Ds.get (s : Ds) (ix sub : Int) : List UInt8 × Int :=
  if fnd s.l ix sub < 0 then ([], miss (fnd s.l ix sub)) else if readN (at_ s.l (fnd s.l ix sub).toNat).ac ≠ 0 then ([], readN (at_ s.l (fnd s.l ix sub).toNat).ac) else (vat s.v (fnd s.l ix sub).toNat, 0)
def Ds.poke (s : Ds) (ix sub : Int) (b : List UInt8) : Int := if fnd s.l ix sub < 0 then miss (fnd s.l ix sub) else (at_ s.l (fnd s.l ix sub).toNat).val b
def Ds.may (s : Ds) (ix sub : Int) (b : List UInt8) : Int :=
  if fnd s.l ix sub < 0 then miss (fnd s.l ix sub) else if writeN (at_ s.l (fnd s.l ix sub).toNat).ac ≠ 0 then writeN (at_ s.l (fnd s.l ix sub).toNat).ac else (at_ s.l (fnd s.l ix sub).toNat).val b
def Ds.peek (s : Ds) (ix sub : Int) : List UInt8 × Bool := if fnd s.l ix sub < 0 then ([], false) else (vat s.v (fnd s.l ix sub).toNat, true)
def Ds.put (s : Ds) (k : Nat) (b : List UInt8) : Ds := { s with v := s.v.set k b }
/-- The state behind a Set, or a Poke, that answered c. -/
def Ds.upon (s : Ds) (c ix sub : Int) (b : List UInt8) : Ds := if c = 0 then s.put (fnd s.l ix sub).toNat b else s
def Ds.reset (s : Ds) : Ds := { s with v := s.l.map (·.d) }
def first (l : List Ev) : Ds := ⟨l, l.map (·.d)⟩
/-- What is so of each dictionary, always. -/
structure Inv (s : Ds) : Prop where
  len : s.v.length = s.l.length
  few : s.l.length ≤ 96
  fine : Fine s.l s.l.length
  ok : ∀ i, i < s.l.length → (at_ s.l i).val (vat s.v i) = 0
theorem inv_first {l : List Ev} (h : (newA l).1 = 0) : Inv (first l) := by
  obtain ⟨h1, h2⟩ := newA_zero h
  refine ⟨by simp [first], h1, h2, fun i hi => ?_⟩
  have h3 := right_val (h2.right hi)
  have hi' : i < l.length := hi
  have e : vat (first l).v i = (at_ l i).d := by simp [first, vat, at_, hi']
  rw [e]
  exact h3
theorem Inv.reset {s : Ds} (h : Inv s) : Inv s.reset := by
  refine ⟨by simp [Ds.reset], h.few, h.fine, fun i hi => ?_⟩
  have hi' : i < s.l.length := hi
  have h3 := right_val (h.fine.right hi')
  have e : vat s.reset.v i = (at_ s.l i).d := by simp [Ds.reset, vat, at_, hi']
  rw [e]
  exact h3
theorem vat_set (v : List (List UInt8)) (k i : Nat) (b : List UInt8) (hk : k < v.length) : vat (v.set k b) i = if i = k then b else vat v i := by
  unfold vat
  by_cases e : i = k
  · subst e
    simp [hk]
  · rw [if_neg e]
    simp [List.getElem?_set, Ne.symm e]
theorem Inv.put {s : Ds} (h : Inv s) {k : Nat} {b : List UInt8} (hk : k < s.l.length) (hb : (at_ s.l k).val b = 0) : Inv (s.put k b) := by
  refine ⟨by simp [Ds.put, h.len], h.few, h.fine, fun i hi => ?_⟩
  have hi' : i < s.l.length := hi
  have e : vat (s.put k b).v i = if i = k then b else vat s.v i := vat_set s.v k i b (by rw [h.len]; exact hk)
  rw [e]
  by_cases ei : i = k
  · subst ei
    rw [if_pos rfl]
    exact hb
  · rw [if_neg ei]
    exact h.ok i hi'
theorem miss_ne (k : Int) : miss k ≠ 0 := by unfold miss; split <;> decide
theorem poke_zero {s : Ds} {ix sub : Int} {b : List UInt8} (h : s.poke ix sub b = 0) : ∃ k : Nat, k < s.l.length ∧ fnd s.l ix sub = (k : Int) ∧ (at_ s.l k).ix = ix ∧ (at_ s.l k).sub = sub ∧ (at_ s.l k).val b = 0 := by
  unfold Ds.poke at h
  rcases fnd_cases s.l ix sub with e | e | ⟨k, hk, e, e1, e2⟩
  · rw [if_pos (by omega)] at h; exact absurd h (miss_ne _)
  · rw [if_pos (by omega)] at h; exact absurd h (miss_ne _)
  · rw [if_neg (by omega), e] at h
    exact ⟨k, hk, e, e1, e2, by simpa using h⟩
theorem may_zero {s : Ds} {ix sub : Int} {b : List UInt8} (h : s.may ix sub b = 0) : s.poke ix sub b = 0 := by
  unfold Ds.may at h
  unfold Ds.poke
  by_cases h1 : fnd s.l ix sub < 0
  · rw [if_pos h1] at h; exact absurd h (miss_ne _)
  · rw [if_neg h1] at h ⊢
    by_cases h2 : writeN (at_ s.l (fnd s.l ix sub).toNat).ac = 0
    · rw [if_neg (by omega)] at h
      exact h
    · rw [if_pos h2] at h
      exact absurd h h2
theorem Inv.upon {s : Ds} (h : Inv s) {c ix sub : Int} {b : List UInt8} (hc : c = 0 → s.poke ix sub b = 0) : Inv (s.upon c ix sub b) := by
  unfold Ds.upon
  by_cases e : c = 0
  · rw [if_pos e]
    obtain ⟨k, hk, ek, _, _, hv⟩ := poke_zero (hc e)
    rw [ek]
    exact h.put hk hv
  · rw [if_neg e]
    exact h
end Dic
end Go.Proofs.YtpdnfdpoebhjoaaDoor

namespace Go.Proofs.YtpdnfdpoebhjoaaDoor
namespace Dic
open Go.RowKit Mem Ent
set_option linter.unusedVariables false
set_option linter.unusedSimpArgs false
set_option maxRecDepth 100000

section
variable {α : Type} {f : α → List Value} {k : Nat}
/-- A list of structs as cells. -/
def flat (f : α → List Value) (l : List α) : List Value := (l.map f).flatten
theorem flat_cons (f : α → List Value) (a : α) (l : List α) : flat f (a :: l) = f a ++ flat f l := by simp [flat]
theorem flat_app (f : α → List Value) (l m : List α) : flat f (l ++ m) = flat f l ++ flat f m := by simp [flat]
theorem flat_snoc (f : α → List Value) (l : List α) (a : α) : flat f (l ++ [a]) = flat f l ++ f a := by simp [flat]
theorem flat_len (hf : ∀ a, (f a).length = k) : ∀ l : List α, (flat f l).length = l.length * k := by
  intro l
  induction l with
  | nil => simp [flat]
  | cons a l ih => rw [flat_cons, List.length_append, ih, hf, List.length_cons, Nat.succ_mul, Nat.add_comm]
theorem flat_get (hf : ∀ a, (f a).length = k) (z : α) : ∀ (l : List α) (j i : Nat), j < l.length → i < k → (flat f l)[j * k + i]? = (f (l.getD j z))[i]? := by
  intro l
  induction l with
  | nil => intro j i hj; simp at hj
  | cons a l ih =>
    intro j i hj hi
    rw [flat_cons]
    cases j with
    | zero =>
      rw [Nat.zero_mul, Nat.zero_add, List.getElem?_append_left (by rw [hf]; exact hi)]
      rfl
    | succ j =>
      rw [List.getElem?_append_right (by rw [hf, Nat.succ_mul]; omega), hf, show (j + 1) * k + i - k = j * k + i by rw [Nat.succ_mul]; omega, ih j i (by simpa using hj) hi]
      rfl
theorem flat_set (hf : ∀ a, (f a).length = k) (z : α) : ∀ (l : List α) (j i : Nat) (u : Value) (a' : α), j < l.length → i < k → (f (l.getD j z)).set i u = f a' → (flat f l).set (j * k + i) u = flat f (l.set j a') := by
  intro l
  induction l with
  | nil => intro j i u a' hj; simp at hj
  | cons a l ih =>
    intro j i u a' hj hi he
    rw [flat_cons]
    cases j with
    | zero =>
      rw [Nat.zero_mul, Nat.zero_add, List.set_append_left _ _ (by rw [hf]; exact hi), List.set_cons_zero, flat_cons]
      have : (f a).set i u = f a' := he
      rw [this]
    | succ j =>
      rw [List.set_append_right _ _ (by rw [hf, Nat.succ_mul]; omega), hf, show (j + 1) * k + i - k = j * k + i by rw [Nat.succ_mul]; omega, ih j i u a' (by simpa using hj) hi he, List.set_cons_succ, flat_cons]
theorem flat_one (h1 : ∀ a, ∀ u ∈ f a, u.oneCell' = true) (l : List α) : ∀ u ∈ flat f l, u.oneCell' = true := by
  intro u hu
  unfold flat at hu
  simp only [List.mem_flatten, List.mem_map] at hu
  obtain ⟨m, ⟨a, _, rfl⟩, hu⟩ := hu
  exact h1 a u hu
theorem flat_nil (f : α → List Value) : flat f [] = [] := rfl
theorem getD_mem {l : List α} {j : Nat} {z : α} (hj : j < l.length) : l.getD j z ∈ l := by simp [hj]

/-- The slice at A reads as a list of structs, in a block that G allows. -/
def RdL (f : α → List Value) (k : Nat) (z : α) (G : Nat → Prop) (W : World) (A : Option Addr) (l : List α) : Prop :=
  l = [] ∨ ∃ g off, A = some ⟨g, off, none⟩ ∧ G g ∧ ∀ j, j < l.length → ∀ i, i < k → W.cell? ⟨g, off + j * k + i, none⟩ = (f (l.getD j z))[i]?
theorem RdL.keep {z : α} {G : Nat → Prop} {W W' : World} {A : Option Addr} {l : List α} (h : RdL f k z G W A l) (hk : ∀ g, G g → W'.heap[g]? = W.heap[g]?) : RdL f k z G W' A l := by
  rcases h with h | ⟨g, off, e, hg, hc⟩
  · exact .inl h
  · exact .inr ⟨g, off, e, hg, fun j hj i hi => (World.cell?_of_block (w := W) (a := ⟨g, off + j * k + i, none⟩) (hk g hg)).trans (hc j hj i hi)⟩
theorem RdL.mono {z : α} {G G' : Nat → Prop} {W : World} {A : Option Addr} {l : List α} (h : RdL f k z G W A l) (hk : ∀ g, G g → G' g) : RdL f k z G' W A l := by
  rcases h with h | ⟨g, off, e, hg, hc⟩
  · exact .inl h
  · exact .inr ⟨g, off, e, hk g hg, hc⟩
/-- A row of one's own, as a slice. -/
theorem own_form {W : World} {base : Nat} {e : TypeId} {v : Value} {l : List α} {z : α} (hf : ∀ a, (f a).length = k) (h : W.ownsRow base e k v l.length (flat f l)) :
    ∃ A c, v = .slice A l.length c ∧ l.length ≤ c ∧ c ≤ maxLen ∧ ((A = none ∧ l = [] ∧ c = 0) ∨ ∃ g, A = some ⟨g, 0, none⟩ ∧ base ≤ g ∧ g < W.heap.size ∧ (∀ j, W.frozen? ⟨g, j, none⟩ = false) ∧ ∀ j, j < l.length → ∀ i, i < k → W.cell? ⟨g, j * k + i, none⟩ = (f (l.getD j z))[i]?) := by
  rcases h.2 with ⟨rfl, hn⟩ | ⟨g, cap, cur, rfl, hb, hh, hnc, hcm, hcs, ht⟩
  · have : l = [] := List.eq_nil_of_length_eq_zero hn
    subst this
    exact ⟨none, 0, rfl, Nat.le_refl _, by unfold maxLen; omega, .inl ⟨rfl, rfl, rfl⟩⟩
  · refine ⟨_, _, rfl, hnc, hcm, .inr ⟨g, rfl, hb, (Array.getElem?_eq_some_iff.1 hh).1, fun j => World.ownsRow.frozenAt h j, fun j hj i hi => ?_⟩⟩
    have hlt : j * k + i < l.length * k := by
      have h1 : (j + 1) * k ≤ l.length * k := Nat.mul_le_mul_right k (by omega)
      rw [Nat.succ_mul] at h1
      omega
    have := World.ownsRow.cellAt h (j * k + i) hlt
    rw [this, flat_get hf z l j i hj hi]
end

theorem own_keep {W W' : World} {base n size : Nat} {e : TypeId} {v : Value} {xs : List Value} (h : W.ownsRow base e size v n xs) (k : ∀ g, v.ownBlock = some g → W'.heap[g]? = W.heap[g]?) : W'.ownsRow base e size v n xs := by
  refine ⟨h.1, ?_⟩
  rcases h.2 with h1 | ⟨g, cap, cur, hv, hb, hh, hr⟩
  · exact .inl h1
  · exact .inr ⟨g, cap, cur, hv, hb, (k g (by rw [hv]; rfl)).trans hh, hr⟩
theorem own_below {W W' : World} {base size n : Nat} {e : TypeId} {v : Value} {xs : List Value} (h : W.ownsRow base e size v n xs) (b : Below W.heap.size W W') : W'.ownsRow base e size v n xs := own_keep h fun g hg => b.block g (h.lt g hg).2
theorem cell_of {W : World} {p j : Nat} {l : List Value} {t : TypeId} {v : Value} (h : W.heap[p]? = some (.cells l.toArray t (0, 0))) (hj : l[j]? = some v) : W.cell? ⟨p, j, none⟩ = some v := by
  simp [World.cell?, h, hj]

/-- The slice at A reads as bs, in a block that G allows. -/
def RdB (G : Nat → Prop) (w : World) (A : Option Addr) (bs : List UInt8) : Prop :=
  bs = [] ∨ ∃ g off, A = some ⟨g, off, none⟩ ∧ G g ∧ ∀ j, j < bs.length → w.cell? ⟨g, off + j, none⟩ = some (.int .u8 (byt bs j))
section
variable {G G' : Nat → Prop} {W W' : World} {A : Option Addr} {bs : List UInt8} {B : Nat}
theorem RdB.keep (h : RdB G W A bs) (k : ∀ g, G g → W'.heap[g]? = W.heap[g]?) : RdB G W' A bs := by
  rcases h with h | ⟨g, off, e, hg, hc⟩
  · exact .inl h
  · exact .inr ⟨g, off, e, hg, fun j hj => (World.cell?_of_block (w := W) (a := ⟨g, off + j, none⟩) (k g hg)).trans (hc j hj)⟩
theorem RdB.mono (h : RdB G W A bs) (k : ∀ g, G g → G' g) : RdB G' W A bs := by
  rcases h with h | ⟨g, off, e, hg, hc⟩
  · exact .inl h
  · exact .inr ⟨g, off, e, k g hg, hc⟩
theorem RdB.rd (h : RdB G W A bs) (k : ∀ g, G g → g < B) : Rd W B A bs := h.mono k
/-- Bytes of a call's own lie in new memory. -/
theorem rdB_own {base : Nat} {t : TypeId} {v : Value} {A : Option Addr} {n c : Nat} (h : Own W base t v bs) (hv : v = .slice A n c) : RdB (fun g => base ≤ g ∧ g < W.heap.size) W A bs := by
  subst hv
  rcases h.2 with ⟨hv, hn⟩ | ⟨g, cap, cur, hv, hb, hh, hnc, hcm, hcs, ht⟩
  · exact .inl (List.eq_nil_of_length_eq_zero hn)
  · cases hv
    refine .inr ⟨g, 0, rfl, ⟨hb, (Array.getElem?_eq_some_iff.1 hh).1⟩, fun j hj => ?_⟩
    have := World.ownsRow.cellAt h j (by omega)
    rw [u8s_at hj] at this
    simpa using this
end

/-- The blocks that are there and that nobody writes to. -/
abbrev Clear (W : World) (N : Nat → Prop) (g : Nat) : Prop := g < W.heap.size ∧ ¬ N g
/-- The blocks that are written to: those of N, and v's. -/
def DN (N : Nat → Prop) (v : Value) (g : Nat) : Prop := N g ∨ v.ownBlock = some g

def YT : TypeId := 5
def ET : TypeId := 38
abbrev ptr (p : Nat) : Value := .pointer (some ⟨p, 0, none⟩)
/-- An entry as a value, out of one with the place of its bytes. -/
def ev (e : En) : Ev := ⟨e.ix, e.sub, e.nm, e.ty, e.ac, e.mp, e.st, e.mx, e.lo, e.hi, e.d⟩
def enZ : En := ⟨0, 0, [], 0, 0, false, false, 0, 0, 0, none, [], 0⟩
/-- The numbers of an entry, and how long its texts are. -/
structure EvOk (e : Ev) : Prop where
  ix : I64 e.ix
  sub : I64 e.sub
  nm : e.nm.length ≤ 1000
  ty : I64 e.ty
  ac : I64 e.ac
  mx : I64 e.mx
  lo : I64 e.lo
  hi : I64 e.hi
  d : e.d.length ≤ 1000
/-- A row of the dictionary: an entry, a value, and where their bytes lie. -/
structure Rv where
  e : Ev
  A : Option Addr
  cA : Nat
  V : Option Addr
  v : List UInt8
  cV : Nat
def Rv.zero : Rv := ⟨Ev.zero, none, 0, none, [], 0⟩
def Rv.vals (r : Rv) : List Value := [.int .i64 r.e.ix, .int .i64 r.e.sub, .string ⟨r.e.nm.toArray⟩, .int .i64 r.e.ty, .int .i64 r.e.ac, .bool r.e.mp, .bool r.e.st, .int .i64 r.e.mx, .int .i64 r.e.lo, .int .i64 r.e.hi, .slice r.A r.e.d.length r.cA, .slice r.V r.v.length r.cV]
theorem rv_len (r : Rv) : r.vals.length = 12 := rfl
theorem rv_one (r : Rv) : ∀ u ∈ r.vals, u.oneCell' = true := by
  intro u hu
  simp only [Rv.vals, List.mem_cons, List.not_mem_nil, or_false] at hu
  rcases hu with rfl | rfl | rfl | rfl | rfl | rfl | rfl | rfl | rfl | rfl | rfl | rfl <;> rfl
abbrev Rv.ent (r : Rv) : Value := Ent.ent r.e.ix r.e.sub r.e.nm r.e.ty r.e.ac r.e.mp r.e.st r.e.mx r.e.lo r.e.hi (.slice r.A r.e.d.length r.cA)
/-- The twelve cells of a row. -/
def Row12 (W : World) (g o : Nat) (r : Rv) : Prop :=
  W.cell? ⟨g, o, none⟩ = some (.int .i64 r.e.ix) ∧ W.cell? ⟨g, o + 1, none⟩ = some (.int .i64 r.e.sub) ∧ W.cell? ⟨g, o + 2, none⟩ = some (.string ⟨r.e.nm.toArray⟩) ∧ W.cell? ⟨g, o + 3, none⟩ = some (.int .i64 r.e.ty) ∧ W.cell? ⟨g, o + 4, none⟩ = some (.int .i64 r.e.ac) ∧
  W.cell? ⟨g, o + 5, none⟩ = some (.bool r.e.mp) ∧ W.cell? ⟨g, o + 6, none⟩ = some (.bool r.e.st) ∧ W.cell? ⟨g, o + 7, none⟩ = some (.int .i64 r.e.mx) ∧ W.cell? ⟨g, o + 8, none⟩ = some (.int .i64 r.e.lo) ∧ W.cell? ⟨g, o + 9, none⟩ = some (.int .i64 r.e.hi) ∧
  W.cell? ⟨g, o + 10, none⟩ = some (.slice r.A r.e.d.length r.cA) ∧ W.cell? ⟨g, o + 11, none⟩ = some (.slice r.V r.v.length r.cV)
def dcells (v : Value) : List Value := [v, .bool true]
def DT : TypeId := 62
def RT : TypeId := 66
/-- A dictionary stands in block p, its row v is its own; the bytes of its rows lie apart from all blocks that are written to. -/
structure IsD (W : World) (p : Nat) (v : Value) (N : Nat → Prop) (rs : List Rv) : Prop where
  blk : W.heap[p]? = some (.cells (dcells v).toArray DT (0, 0))
  own : W.ownsRow 0 RT 12 v rs.length (flat Rv.vals rs)
  np : ¬ N p
  ne : v.ownBlock ≠ some p
  nk : ∀ g, v.ownBlock = some g → ¬ N g
  data : ∀ r ∈ rs, RdB (Clear W (DN N v)) W r.A r.e.d ∧ RdB (Clear W (DN N v)) W r.V r.v
  ok : ∀ r ∈ rs, EvOk r.e ∧ r.v.length ≤ 1000
  few : rs.length ≤ 96
section
variable {W W' : World} {p : Nat} {v : Value} {N N' : Nat → Prop} {rs : List Rv}
theorem IsD.lt (h : IsD W p v N rs) : p < W.heap.size := (Array.getElem?_eq_some_iff.1 h.blk).1
theorem IsD.c0 (h : IsD W p v N rs) : W.cell? ⟨p, 0, none⟩ = some v := cell_of h.blk rfl
theorem IsD.c1 (h : IsD W p v N rs) : W.cell? ⟨p, 1, none⟩ = some (.bool true) := cell_of h.blk rfl
theorem IsD.vlt (h : IsD W p v N rs) {g : Nat} (hg : v.ownBlock = some g) : g < W.heap.size := (h.own.lt g hg).2
/-- Kept, when the blocks N alone are written to. -/
theorem IsD.keep (h : IsD W p v N rs) (hs : W.heap.size ≤ W'.heap.size) (hk : ∀ g, g < W.heap.size → ¬ N g → W'.heap[g]? = W.heap[g]?) (hN : ∀ g, g < W.heap.size → N' g → N g) : IsD W' p v N' rs :=
  ⟨(hk p h.lt h.np).trans h.blk, own_keep h.own fun g hg => hk g (h.vlt hg) (h.nk g hg), fun k => h.np (hN p h.lt k), h.ne, fun g hg k => h.nk g hg (hN g (h.vlt hg) k),
    fun r hr => ⟨((h.data r hr).1.keep fun g hg => hk g hg.1 fun k => hg.2 (.inl k)).mono fun g hg => ⟨Nat.lt_of_lt_of_le hg.1 hs, fun n => hg.2 (n.elim (fun k => .inl (hN g hg.1 k)) .inr)⟩,
      ((h.data r hr).2.keep fun g hg => hk g hg.1 fun k => hg.2 (.inl k)).mono fun g hg => ⟨Nat.lt_of_lt_of_le hg.1 hs, fun n => hg.2 (n.elim (fun k => .inl (hN g hg.1 k)) .inr)⟩⟩, h.ok, h.few⟩
theorem IsD.below (h : IsD W p v N rs) (b : Below W.heap.size W W') : IsD W' p v N rs := h.keep b.size (fun g hg _ => b.block g hg) (fun _ _ k => k)
theorem IsD.other (h : IsD W p v N rs) (hN : ∀ g, g < W.heap.size → N' g → N g) : IsD W p v N' rs := h.keep (Nat.le_refl _) (fun _ _ _ => rfl) hN
theorem IsD.form (h : IsD W p v N rs) : ∃ A c, v = .slice A rs.length c ∧ rs.length ≤ c ∧ c ≤ maxLen := by
  obtain ⟨A, c, e, h1, h2, _⟩ := own_form (z := Rv.zero) rv_len h.own
  exact ⟨A, c, e, h1, h2⟩
/-- The row of a number. -/
theorem IsD.at (h : IsD W p v N rs) {k : Nat} (hk : k < rs.length) {r : Rv} (hr : rs.getD k Rv.zero = r) : ∃ g c, v = .slice (some ⟨g, 0, none⟩) rs.length c ∧ g < W.heap.size ∧ rs.length ≤ c ∧ c ≤ maxLen ∧ Row12 W g (k * 12) r ∧ (∀ j, W.frozen? ⟨g, j, none⟩ = false) := by
  obtain ⟨A, c, e, h1, h2, h3⟩ := own_form (z := Rv.zero) rv_len h.own
  rcases h3 with ⟨_, h3, _⟩ | ⟨g, rfl, _, hg, hf, hc⟩
  · subst h3; simp at hk
  · have q := hc k hk
    rw [hr] at q
    exact ⟨g, c, e, hg, h1, h2, ⟨q 0 (by omega), q 1 (by omega), q 2 (by omega), q 3 (by omega), q 4 (by omega), q 5 (by omega), q 6 (by omega), q 7 (by omega), q 8 (by omega), q 9 (by omega), q 10 (by omega), q 11 (by omega)⟩, hf⟩
theorem IsD.rd (h : IsD W p v N rs) {r : Rv} (hr : r ∈ rs) : Rd W W.heap.size r.A r.e.d ∧ Rd W W.heap.size r.V r.v :=
  ⟨(h.data r hr).1.rd fun g hg => hg.1, (h.data r hr).2.rd fun g hg => hg.1⟩
theorem Row12.below {g o : Nat} {r : Rv} (h : Row12 W g o r) (hg : g < W.heap.size) (b : Below W.heap.size W W') : Row12 W' g o r := by
  obtain ⟨q0, q1, q2, q3, q4, q5, q6, q7, q8, q9, q10, q11⟩ := h
  have c : ∀ (j : Nat) (u : Value), W.cell? ⟨g, j, none⟩ = some u → W'.cell? ⟨g, j, none⟩ = some u := fun j u hu => (b.cell (p := ⟨g, j, none⟩) hg).trans hu
  exact ⟨c _ _ q0, c _ _ q1, c _ _ q2, c _ _ q3, c _ _ q4, c _ _ q5, c _ _ q6, c _ _ q7, c _ _ q8, c _ _ q9, c _ _ q10, c _ _ q11⟩
end
/-- Nothing that was there is changed but the blocks S. -/
structure Upd (S : Nat → Prop) (w w' : World) : Prop where
  os : w'.os = w.os
  tape : w'.tape = w.tape
  output : w'.output = w.output
  size : w.heap.size ≤ w'.heap.size
  block : ∀ k, k < w.heap.size → ¬ S k → w'.heap[k]? = w.heap[k]?
section
variable {S S' : Nat → Prop} {a b c w w' : World}
theorem Upd.refl (S : Nat → Prop) (w : World) : Upd S w w := ⟨rfl, rfl, rfl, Nat.le_refl _, fun _ _ _ => rfl⟩
theorem Upd.trans (h : Upd S a b) (k : Upd S b c) : Upd S a c :=
  ⟨k.os.trans h.os, k.tape.trans h.tape, k.output.trans h.output, Nat.le_trans h.size k.size, fun i hi h1 => (k.block i (Nat.lt_of_lt_of_le hi h.size) h1).trans (h.block i hi h1)⟩
theorem Upd.of_below (h : Below w.heap.size w w') : Upd S w w' := ⟨h.os, h.tape, h.output, h.size, fun k hk _ => h.block k hk⟩
theorem Upd.next (h : Upd S a w) (b : Below w.heap.size w w') : Upd S a w' := h.trans (.of_below b)
theorem Upd.wide (h : Upd S w w') (hS : ∀ g, S g → S' g) : Upd S' w w' := ⟨h.os, h.tape, h.output, h.size, fun k hk h1 => h.block k hk fun s => h1 (hS k s)⟩
theorem Upd.set (h : Upd S a w) {g : Nat} (hg : S g ∨ a.heap.size ≤ g) (j : Nat) (u : Value) : Upd S a (w.setCell ⟨g, j, none⟩ u) := by
  refine ⟨h.os, h.tape, h.output, by simpa [World.setCell] using h.size, fun k hk h1 => (Below.heap_setCell w ⟨g, j, none⟩ u k fun e => ?_).trans (h.block k hk h1)⟩
  have e' : k = g := e
  rcases hg with hg | hg
  · exact h1 (e' ▸ hg)
  · omega
theorem Upd.grown (h : Upd S a w) {r : Option Nat} (g : w.grownBy w' r) (hr : ∀ k, r = some k → S k ∨ a.heap.size ≤ k) : Upd S a w' :=
  ⟨g.os.trans h.os, g.tape.trans h.tape, g.output.trans h.output, Nat.le_trans h.size g.size, fun k hk h1 => (g.block k (Nat.lt_of_lt_of_le hk h.size) fun e => (hr k e.symm).elim h1 (by omega)).trans (h.block k hk h1)⟩
theorem Upd.below (h : Upd S w w') {B : Nat} (hB : B ≤ w.heap.size) (hS : ∀ k, S k → B ≤ k) : Below B w w' :=
  ⟨h.os, h.tape, h.output, h.size, fun k hk => h.block k (by omega) fun s => by have := hS k s; omega⟩
end
end Dic
end Go.Proofs.YtpdnfdpoebhjoaaDoor
