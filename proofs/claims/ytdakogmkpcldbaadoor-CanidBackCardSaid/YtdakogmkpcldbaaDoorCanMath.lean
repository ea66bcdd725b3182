/-
  Plain facts of names and Ids on the bus. No program is named here.
-/
import Derived.WalkKit
import Derived.Laws.BitsAllLaws
namespace Go.Proofs.YtdakogmkpcldbaaDoor
namespace Can
open Go.RowKit
set_option linter.unusedVariables false

def tab : List (List Int) := [[1, 0, 0, 0, 0], [2, 0, 0, 0, 128], [3, 0, 0, 0, 256], [4, 0, 1, 127, 128], [5, 1, 1, 127, 384], [6, 1, 1, 127, 512], [5, 2, 1, 127, 640], [6, 2, 1, 127, 768],
  [5, 3, 1, 127, 896], [6, 3, 1, 127, 1024], [5, 4, 1, 127, 1152], [6, 4, 1, 127, 1280], [7, 0, 1, 127, 1408], [8, 0, 1, 127, 1536], [9, 0, 1, 127, 1792]]
def row (i j : Nat) : Int := (tab.getD i []).getD j 0
def spans : List (List Int) := [[0, 127], [257, 384], [1409, 1535], [1537, 1663], [1760, 1791], [1793, 2047]]
def span (i j : Nat) : Int := (spans.getD i []).getD j 0

def bases : List Int := [0, 0, 128, 256, 128, 128, 256, 1408, 1536, 1792]
def base (k : Int) : Int := bases.getD k.toNat 0
/-- The name stands in the document's table. -/
def Ok (k n d : Int) : Prop := 1 ≤ k ∧ k ≤ 9 ∧ ((k = 5 ∨ k = 6) ∧ 1 ≤ n ∧ n ≤ 4 ∨ k ≠ 5 ∧ k ≠ 6 ∧ n = 0) ∧ (k ≤ 3 ∧ d = 0 ∨ 4 ≤ k ∧ 1 ≤ d ∧ d ≤ 127)
instance (k n d : Int) : Decidable (Ok k n d) := by unfold Ok; infer_instance
def idx (k n d : Int) : Int × Int := if Ok k n d then (base k + 256 * n + d, 0) else (0, 1)
theorem idx_yes {k n d : Int} (h : Ok k n d) : idx k n d = (base k + 256 * n + d, 0) := if_pos h
theorem idx_no {k n d : Int} (h : ¬ Ok k n d) : idx k n d = (0, 1) := if_neg h

theorem fif {p : Nat → Prop} (h : p 0 ∧ p 1 ∧ p 2 ∧ p 3 ∧ p 4 ∧ p 5 ∧ p 6 ∧ p 7 ∧ p 8 ∧ p 9 ∧ p 10 ∧ p 11 ∧ p 12 ∧ p 13 ∧ p 14) : ∀ i, i < 15 → p i := by
  intro i hi
  obtain ⟨h0, h1, h2, h3, h4, h5, h6, h7, h8, h9, h10, h11, h12, h13, h14⟩ := h
  rcases (by omega : i = 0 ∨ i = 1 ∨ i = 2 ∨ i = 3 ∨ i = 4 ∨ i = 5 ∨ i = 6 ∨ i = 7 ∨ i = 8 ∨ i = 9 ∨ i = 10 ∨ i = 11 ∨ i = 12 ∨ i = 13 ∨ i = 14) with rfl | rfl | rfl | rfl | rfl | rfl | rfl | rfl | rfl | rfl | rfl | rfl | rfl | rfl | rfl <;> assumption
/-- A row, by its numbers. -/
theorem row_one : ∀ i, i < 15 → (row i 0 = 1 ∧ row i 1 = 0 ∧ row i 2 = 0 ∧ row i 3 = 0 ∧ row i 4 = 0) ∨ (row i 0 = 2 ∧ row i 1 = 0 ∧ row i 2 = 0 ∧ row i 3 = 0 ∧ row i 4 = 128) ∨
    (row i 0 = 3 ∧ row i 1 = 0 ∧ row i 2 = 0 ∧ row i 3 = 0 ∧ row i 4 = 256) ∨ (row i 0 = 4 ∧ row i 1 = 0 ∧ row i 2 = 1 ∧ row i 3 = 127 ∧ row i 4 = 128) ∨
    (row i 0 = 5 ∧ 1 ≤ row i 1 ∧ row i 1 ≤ 4 ∧ row i 2 = 1 ∧ row i 3 = 127 ∧ row i 4 = 128 + 256 * row i 1) ∨ (row i 0 = 6 ∧ 1 ≤ row i 1 ∧ row i 1 ≤ 4 ∧ row i 2 = 1 ∧ row i 3 = 127 ∧ row i 4 = 256 + 256 * row i 1) ∨
    (row i 0 = 7 ∧ row i 1 = 0 ∧ row i 2 = 1 ∧ row i 3 = 127 ∧ row i 4 = 1408) ∨ (row i 0 = 8 ∧ row i 1 = 0 ∧ row i 2 = 1 ∧ row i 3 = 127 ∧ row i 4 = 1536) ∨
    (row i 0 = 9 ∧ row i 1 = 0 ∧ row i 2 = 1 ∧ row i 3 = 127 ∧ row i 4 = 1792) :=
  fif ⟨by decide, by decide, by decide, by decide, by decide, by decide, by decide, by decide, by decide, by decide, by decide, by decide, by decide, by decide, by decide⟩
theorem row_cases {i : Nat} (hi : i < 15) : (row i 0 = 1 ∧ row i 1 = 0 ∧ row i 2 = 0 ∧ row i 3 = 0 ∧ row i 4 = 0) ∨ (row i 0 = 2 ∧ row i 1 = 0 ∧ row i 2 = 0 ∧ row i 3 = 0 ∧ row i 4 = 128) ∨
    (row i 0 = 3 ∧ row i 1 = 0 ∧ row i 2 = 0 ∧ row i 3 = 0 ∧ row i 4 = 256) ∨ (row i 0 = 4 ∧ row i 1 = 0 ∧ row i 2 = 1 ∧ row i 3 = 127 ∧ row i 4 = 128) ∨
    (row i 0 = 5 ∧ 1 ≤ row i 1 ∧ row i 1 ≤ 4 ∧ row i 2 = 1 ∧ row i 3 = 127 ∧ row i 4 = 128 + 256 * row i 1) ∨ (row i 0 = 6 ∧ 1 ≤ row i 1 ∧ row i 1 ≤ 4 ∧ row i 2 = 1 ∧ row i 3 = 127 ∧ row i 4 = 256 + 256 * row i 1) ∨
    (row i 0 = 7 ∧ row i 1 = 0 ∧ row i 2 = 1 ∧ row i 3 = 127 ∧ row i 4 = 1408) ∨ (row i 0 = 8 ∧ row i 1 = 0 ∧ row i 2 = 1 ∧ row i 3 = 127 ∧ row i 4 = 1536) ∨
    (row i 0 = 9 ∧ row i 1 = 0 ∧ row i 2 = 1 ∧ row i 3 = 127 ∧ row i 4 = 1792) := row_one i hi
/-- The row of a name. -/
theorem row_of {k n d : Int} (h : Ok k n d) : ∃ i, i < 15 ∧ row i 2 ≤ d ∧ d ≤ row i 3 ∧ row i 0 = k ∧ row i 1 = n := by
  unfold Ok at h
  have big : ∀ i, i < 15 → row i 2 = 1 → row i 3 = 127 → row i 0 = k → row i 1 = n → 1 ≤ d → d ≤ 127 → ∃ i, i < 15 ∧ row i 2 ≤ d ∧ d ≤ row i 3 ∧ row i 0 = k ∧ row i 1 = n :=
    fun i hi h2 h3 h0 h1 a b => ⟨i, hi, by omega, by omega, h0, h1⟩
  rcases (by omega : k = 1 ∨ k = 2 ∨ k = 3 ∨ k = 4 ∨ (k = 5 ∧ n = 1) ∨ (k = 5 ∧ n = 2) ∨ (k = 5 ∧ n = 3) ∨ (k = 5 ∧ n = 4) ∨ (k = 6 ∧ n = 1) ∨ (k = 6 ∧ n = 2) ∨ (k = 6 ∧ n = 3) ∨ (k = 6 ∧ n = 4) ∨ k = 7 ∨ k = 8 ∨ k = 9) with
    e | e | e | e | e | e | e | e | e | e | e | e | e | e | e
  · obtain ⟨rfl, rfl, rfl⟩ : k = 1 ∧ n = 0 ∧ d = 0 := by omega
    exact ⟨0, by decide⟩
  · obtain ⟨rfl, rfl, rfl⟩ : k = 2 ∧ n = 0 ∧ d = 0 := by omega
    exact ⟨1, by decide⟩
  · obtain ⟨rfl, rfl, rfl⟩ : k = 3 ∧ n = 0 ∧ d = 0 := by omega
    exact ⟨2, by decide⟩
  · obtain ⟨rfl, rfl⟩ : k = 4 ∧ n = 0 := by omega
    exact big 3 (by decide) (by decide) (by decide) (by decide) (by decide) (by omega) (by omega)
  · obtain ⟨rfl, rfl⟩ := e
    exact big 4 (by decide) (by decide) (by decide) (by decide) (by decide) (by omega) (by omega)
  · obtain ⟨rfl, rfl⟩ := e
    exact big 6 (by decide) (by decide) (by decide) (by decide) (by decide) (by omega) (by omega)
  · obtain ⟨rfl, rfl⟩ := e
    exact big 8 (by decide) (by decide) (by decide) (by decide) (by decide) (by omega) (by omega)
  · obtain ⟨rfl, rfl⟩ := e
    exact big 10 (by decide) (by decide) (by decide) (by decide) (by decide) (by omega) (by omega)
  · obtain ⟨rfl, rfl⟩ := e
    exact big 5 (by decide) (by decide) (by decide) (by decide) (by decide) (by omega) (by omega)
  · obtain ⟨rfl, rfl⟩ := e
    exact big 7 (by decide) (by decide) (by decide) (by decide) (by decide) (by omega) (by omega)
  · obtain ⟨rfl, rfl⟩ := e
    exact big 9 (by decide) (by decide) (by decide) (by decide) (by decide) (by omega) (by omega)
  · obtain ⟨rfl, rfl⟩ := e
    exact big 11 (by decide) (by decide) (by decide) (by decide) (by decide) (by omega) (by omega)
  · obtain ⟨rfl, rfl⟩ : k = 7 ∧ n = 0 := by omega
    exact big 12 (by decide) (by decide) (by decide) (by decide) (by decide) (by omega) (by omega)
  · obtain ⟨rfl, rfl⟩ : k = 8 ∧ n = 0 := by omega
    exact big 13 (by decide) (by decide) (by decide) (by decide) (by decide) (by omega) (by omega)
  · obtain ⟨rfl, rfl⟩ : k = 9 ∧ n = 0 := by omega
    exact big 14 (by decide) (by decide) (by decide) (by decide) (by decide) (by omega) (by omega)
theorem row_bd {i : Nat} (hi : i < 15) : 0 ≤ row i 0 ∧ row i 0 ≤ 9 ∧ 0 ≤ row i 1 ∧ row i 1 ≤ 4 ∧ 0 ≤ row i 2 ∧ row i 2 ≤ 1 ∧ row i 2 ≤ row i 3 ∧ row i 3 ≤ 127 ∧ 0 ≤ row i 4 ∧ row i 4 ≤ 1792 := by
  have := row_cases hi
  omega

/-- Row i has this name. -/
def mi (k n d : Int) (i : Nat) : Bool := decide (row i 2 ≤ d ∧ d ≤ row i 3 ∧ row i 0 = k ∧ row i 1 = n)
theorem base_of {k : Int} (h1 : 1 ≤ k) (h2 : k ≤ 9) : (k = 1 ∧ base k = 0) ∨ (k = 2 ∧ base k = 128) ∨ (k = 3 ∧ base k = 256) ∨ (k = 4 ∧ base k = 128) ∨ (k = 5 ∧ base k = 128) ∨ (k = 6 ∧ base k = 256) ∨
    (k = 7 ∧ base k = 1408) ∨ (k = 8 ∧ base k = 1536) ∨ (k = 9 ∧ base k = 1792) := by
  rcases (by omega : k = 1 ∨ k = 2 ∨ k = 3 ∨ k = 4 ∨ k = 5 ∨ k = 6 ∨ k = 7 ∨ k = 8 ∨ k = 9) with rfl | rfl | rfl | rfl | rfl | rfl | rfl | rfl | rfl <;> decide
theorem id_some {k n d : Int} {i : Nat} (hi : i < 15) (h : mi k n d i = true) : idx k n d = (row i 4 + d, 0) := by
  have h := of_decide_eq_true h
  have hr := row_cases hi
  have hok : Ok k n d := by unfold Ok; omega
  rw [idx_yes hok]
  have hb := base_of hok.1 hok.2.1
  congr 1
  omega
/-- The row of a name. -/
theorem ok_row {k n d : Int} (h : Ok k n d) : ∃ i, i < 15 ∧ mi k n d i = true := by
  obtain ⟨i, hi, h2⟩ := row_of h
  exact ⟨i, hi, decide_eq_true h2⟩
theorem id_none {k n d : Int} (h : ∀ i, i < 15 → mi k n d i = false) : idx k n d = (0, 1) := by
  refine idx_no fun ok => ?_
  obtain ⟨i, hi, hm⟩ := ok_row ok
  rw [h i hi] at hm
  cases hm

/-- Row i has a name of this Id. -/
def mo (x : Int) (i : Nat) : Bool := decide (row i 2 ≤ x - row i 4 ∧ x - row i 4 ≤ row i 3)
def ofn (x : Int) : (Int × Int × Int) × Bool := match (List.range 15).find? (mo x) with | some i => ((row i 0, row i 1, x - row i 4), true) | none => ((0, 0, 0), false)
theorem of_some {x : Int} {i : Nat} (hi : i < 15) (h : mo x i = true) (hno : ∀ j, j < i → mo x j = false) : ofn x = ((row i 0, row i 1, x - row i 4), true) := by
  have : (List.range 15).find? (mo x) = some i := by
    rw [List.find?_range_eq_some]
    exact ⟨h, List.mem_range.2 hi, fun j hj => by simp [hno j hj]⟩
  unfold ofn
  rw [this]
theorem of_none {x : Int} (hno : ∀ j, j < 15 → mo x j = false) : ofn x = ((0, 0, 0), false) := by
  have : (List.range 15).find? (mo x) = none := by
    rw [List.find?_range_eq_none]
    exact fun j hj => by simp [hno j hj]
  unfold ofn
  rw [this]
/-- Two rows have no Id in common. -/
theorem row_apart {x : Int} {i j : Nat} (hi : i < 15) (hj : j < 15) (h : mo x i = true) (h' : mo x j = true) : row i 0 = row j 0 ∧ row i 1 = row j 1 ∧ row i 4 = row j 4 := by
  have h := of_decide_eq_true h
  have h' := of_decide_eq_true h'
  have a := row_cases hi
  have b := row_cases hj
  rcases a with a | a | a | a | a | a | a | a | a
  all_goals
    rcases b with b | b | b | b | b | b | b | b | b
    all_goals omega
theorem of_in {x : Int} {i : Nat} (hi : i < 15) (h : mo x i = true) : ofn x = ((row i 0, row i 1, x - row i 4), true) := by
  cases hf : (List.range 15).find? (mo x) with
  | none =>
    rw [List.find?_range_eq_none] at hf
    have := hf i hi
    simp [h] at this
  | some j =>
    have hj := List.find?_some hf
    have hj' := List.mem_range.1 (List.mem_of_find?_eq_some hf)
    obtain ⟨h1, h2, h3⟩ := row_apart hi hj' h hj
    unfold ofn
    rw [hf]
    simp only
    rw [h1, h2, h3]
theorem of_or (x : Int) : (∃ i, i < 15 ∧ mo x i = true ∧ ofn x = ((row i 0, row i 1, x - row i 4), true)) ∨ (ofn x = ((0, 0, 0), false) ∧ ∀ j, j < 15 → mo x j = false) := by
  by_cases h : ∃ i, i < 15 ∧ mo x i = true
  · obtain ⟨i, hi, hm⟩ := h
    exact .inl ⟨i, hi, hm, of_in hi hm⟩
  · have hno : ∀ j, j < 15 → mo x j = false := fun j hj => by
      cases hb : mo x j with
      | false => rfl
      | true => exact absurd ⟨j, hj, hb⟩ h
    exact .inr ⟨of_none hno, hno⟩
theorem row_ok {i : Nat} (hi : i < 15) {d : Int} (h1 : row i 2 ≤ d) (h2 : d ≤ row i 3) : idx (row i 0) (row i 1) d = (row i 4 + d, 0) :=
  id_some hi (decide_eq_true ⟨h1, h2, rfl, rfl⟩)
theorem ok_iff (k n d : Int) : (idx k n d).2 = 0 ↔ Ok k n d := by
  by_cases h : Ok k n d
  · rw [idx_yes h]; simp [h]
  · rw [idx_no h]; simp [h]
theorem id_two (k n d : Int) : (idx k n d).2 = 0 ∨ (idx k n d).2 = 1 := by
  by_cases h : Ok k n d
  · rw [idx_yes h]; simp
  · rw [idx_no h]; simp
/-- The name of a name's Id is that name. -/
theorem of_id {k n d : Int} (h : (idx k n d).2 = 0) : ofn (idx k n d).1 = ((k, n, d), true) ∧ 0 ≤ (idx k n d).1 ∧ (idx k n d).1 ≤ 2047 := by
  obtain ⟨i, hi, hm⟩ := ok_row ((ok_iff k n d).1 h)
  have h2 := of_decide_eq_true hm
  rw [id_some hi hm]
  have hmo : mo (row i 4 + d) i = true := decide_eq_true (by omega)
  have hb := row_bd hi
  refine ⟨?_, by simp only; omega, by simp only; omega⟩
  simp only
  rw [of_in hi hmo, h2.2.2.1, h2.2.2.2, show row i 4 + d - row i 4 = d by omega]
/-- The Id of an Id's name is that Id. -/
theorem id_of {x : Int} (h : (ofn x).2 = true) : idx (ofn x).1.1 (ofn x).1.2.1 (ofn x).1.2.2 = (x, 0) := by
  rcases of_or x with ⟨i, hi, hm, e⟩ | ⟨e, _⟩
  · have h2 := of_decide_eq_true hm
    rw [e]
    simp only
    rw [row_ok hi h2.1 h2.2, show row i 4 + (x - row i 4) = x by omega]
  · rw [e] at h; cases h
/-- No name has it. -/
theorem of_no {x : Int} (h : ∀ k n d : Int, 1 ≤ k → k ≤ 9 → 0 ≤ n → n ≤ 4 → 0 ≤ d → d ≤ 127 → idx k n d ≠ (x, 0)) : ofn x = ((0, 0, 0), false) := by
  rcases of_or x with ⟨i, hi, hm, e⟩ | ⟨e, _⟩
  · have h2 := of_decide_eq_true hm
    have hr := row_cases hi
    exact absurd (by rw [row_ok hi h2.1 h2.2, show row i 4 + (x - row i 4) = x by omega]) (h (row i 0) (row i 1) (x - row i 4) (by omega) (by omega) (by omega) (by omega) (by omega) (by omega))
  · exact e
theorem of_bd (x : Int) : 0 ≤ (ofn x).1.1 ∧ (ofn x).1.1 ≤ 9 ∧ 0 ≤ (ofn x).1.2.1 ∧ (ofn x).1.2.1 ≤ 4 ∧ 0 ≤ (ofn x).1.2.2 ∧ (ofn x).1.2.2 ≤ 127 := by
  rcases of_or x with ⟨i, hi, hm, e⟩ | ⟨e, _⟩
  · have h2 := of_decide_eq_true hm
    have hr := row_cases hi
    rw [e]
    simp only
    omega
  · rw [e]; simp only; omega

/-- What may not be given. -/
def res (x : Int) : Bool := decide (x < 128 ∨ 2047 < x ∨ (257 ≤ x ∧ x ≤ 384) ∨ (1409 ≤ x ∧ x ≤ 1535) ∨ (1537 ≤ x ∧ x ≤ 1663) ∨ (1760 ≤ x ∧ x ≤ 1791) ∨ 1793 ≤ x)
def ms (x : Int) (i : Nat) : Bool := decide (span i 0 ≤ x ∧ x ≤ span i 1)
theorem res_out {x : Int} (h : x < 0 ∨ 2047 < x) : res x = true := decide_eq_true (by omega)
theorem res_some {x : Int} {i : Nat} (hi : i < 6) (h : ms x i = true) : res x = true := by
  have h := of_decide_eq_true h
  refine decide_eq_true ?_
  rcases (by omega : i = 0 ∨ i = 1 ∨ i = 2 ∨ i = 3 ∨ i = 4 ∨ i = 5) with rfl | rfl | rfl | rfl | rfl | rfl
  all_goals
    simp only [span, spans, List.getD_eq_getElem?_getD, List.getElem?_cons_zero, List.getElem?_cons_succ, Option.getD_some] at h
    omega
theorem res_none {x : Int} (h0 : 0 ≤ x) (h1 : x ≤ 2047) (h : ∀ i, i < 6 → ms x i = false) : res x = false := by
  have a0 := of_decide_eq_false (h 0 (by decide))
  have a1 := of_decide_eq_false (h 1 (by decide))
  have a2 := of_decide_eq_false (h 2 (by decide))
  have a3 := of_decide_eq_false (h 3 (by decide))
  have a4 := of_decide_eq_false (h 4 (by decide))
  have a5 := of_decide_eq_false (h 5 (by decide))
  simp only [span, spans, List.getD_eq_getElem?_getD, List.getElem?_cons_zero, List.getElem?_cons_succ, Option.getD_some] at a0 a1 a2 a3 a4 a5
  exact decide_eq_false (by omega)

/-- A word's parts. -/
def bad (w : Int) : Bool := decide (2048 ≤ w % 1073741824)
def wOff (w : Int) : Bool := decide (2147483648 ≤ w)
def wNo (w : Int) : Bool := decide (1073741824 ≤ w % 2147483648)
def spl (w : Int) : (Bool × Bool × Int) × Int := if bad w = true then ((false, false, 0), 4) else ((wOff w, wNo w, w % 2048), 0)
theorem and_bad {w : Int} (h0 : 0 ≤ w) (h1 : w ≤ 4294967295) : (bits .andNot .u32 w 3221227519 != 0) = bad w := by
  obtain ⟨n, rfl⟩ : ∃ n : Nat, w = (n : Int) := ⟨w.toNat, by omega⟩
  have e : bits .andNot .u32 (n : Int) ((3221227519 : Nat) : Int) = _ := u32_andNot_nat n 3221227519 (by omega) (by omega)
  have e2 : n &&& (4294967295 - 3221227519) = n % 1073741824 / 2048 * 2048 := nat_midmask 30 11 n (by decide)
  rw [e2] at e
  rw [show (3221227519 : Int) = ((3221227519 : Nat) : Int) from rfl, e]
  unfold bad
  by_cases h : 2048 ≤ (n : Int) % 1073741824
  · rw [decide_eq_true h]
    simp only [bne_iff_ne, ne_eq]
    omega
  · rw [decide_eq_false h, show n % 1073741824 / 2048 * 2048 = 0 by omega]
    rfl
theorem and_off {w : Int} (h0 : 0 ≤ w) (h1 : w ≤ 4294967295) : (bits .and .u32 w 2147483648 != 0) = wOff w := by
  obtain ⟨n, rfl⟩ : ∃ n : Nat, w = (n : Int) := ⟨w.toNat, by omega⟩
  have e : bits .and .u32 (n : Int) ((2147483648 : Nat) : Int) = _ := u32_and_nat n 2147483648 (by omega) (by omega)
  rw [nat_bit31] at e
  rw [show (2147483648 : Int) = ((2147483648 : Nat) : Int) from rfl, e]
  unfold wOff
  by_cases h : 2147483648 ≤ (n : Int)
  · rw [decide_eq_true h]
    simp only [bne_iff_ne, ne_eq]
    omega
  · rw [decide_eq_false h, show n / 2147483648 % 2 * 2147483648 = 0 by omega]
    rfl
theorem and_no {w : Int} (h0 : 0 ≤ w) (h1 : w ≤ 4294967295) : (bits .and .u32 w 1073741824 != 0) = wNo w := by
  obtain ⟨n, rfl⟩ : ∃ n : Nat, w = (n : Int) := ⟨w.toNat, by omega⟩
  have e : bits .and .u32 (n : Int) ((1073741824 : Nat) : Int) = _ := u32_and_nat n 1073741824 (by omega) (by omega)
  rw [nat_bit30] at e
  rw [show (1073741824 : Int) = ((1073741824 : Nat) : Int) from rfl, e]
  unfold wNo
  by_cases h : 1073741824 ≤ (n : Int) % 2147483648
  · rw [decide_eq_true h]
    simp only [bne_iff_ne, ne_eq]
    omega
  · rw [decide_eq_false h, show n / 1073741824 % 2 * 1073741824 = 0 by omega]
    rfl
theorem and_id {w : Int} (h0 : 0 ≤ w) (h1 : w ≤ 4294967295) : bits .and .u32 w 2047 = w % 2048 := by
  obtain ⟨n, rfl⟩ : ∃ n : Nat, w = (n : Int) := ⟨w.toNat, by omega⟩
  have e : bits .and .u32 (n : Int) ((2047 : Nat) : Int) = _ := u32_and_nat n 2047 (by omega) (by omega)
  rw [nat_mask11] at e
  rw [show (2047 : Int) = ((2047 : Nat) : Int) from rfl, e]
  omega
/-- A word of its parts. -/
def wrd (o r : Bool) (i : Int) : Int := i + (if o = true then 2147483648 else 0) + (if r = true then 1073741824 else 0)
def jn (o r : Bool) (i : Int) : Int × Int := if 0 ≤ i ∧ i ≤ 2047 then (wrd o r i, 0) else (0, 9)
theorem or_off {i : Int} (h0 : 0 ≤ i) (h1 : i ≤ 2047) : bits .or .u32 i 2147483648 = i + 2147483648 := by
  obtain ⟨n, rfl⟩ : ∃ n : Nat, i = (n : Int) := ⟨i.toNat, by omega⟩
  have e : bits .or .u32 (n : Int) ((2147483648 : Nat) : Int) = _ := u32_or_nat n 2147483648 (by omega) (by omega)
  rw [Nat.or_comm, nat_join 31 2147483648 n (by decide) (by omega)] at e
  rw [show (2147483648 : Int) = ((2147483648 : Nat) : Int) from rfl, e]
  omega
theorem wrd_ff (i : Int) : wrd false false i = i := by simp [wrd]
theorem wrd_tf (i : Int) : wrd true false i = i + 2147483648 := by simp [wrd]
theorem wrd_ft (i : Int) : wrd false true i = i + 1073741824 := by simp [wrd]
theorem wrd_tt (i : Int) : wrd true true i = i + 2147483648 + 1073741824 := by simp [wrd]
theorem or_no {i : Int} (h0 : 0 ≤ i) (h1 : i ≤ 2047) (o : Bool) : bits .or .u32 (wrd o false i) 1073741824 = wrd o true i := by
  obtain ⟨n, rfl⟩ : ∃ n : Nat, i = (n : Int) := ⟨i.toNat, by omega⟩
  have key : ∀ a : Nat, a % 2147483648 = 0 → a + n < 4294967296 → bits .or .u32 ((a + n : Nat) : Int) ((1073741824 : Nat) : Int) = ((a + n + 1073741824 : Nat) : Int) := by
    intro a ha hb
    rw [u32_or_nat _ _ hb (by omega)]
    have e1 : a + n = a ||| n := (nat_join 31 a n (by omega) (by omega)).symm
    rw [e1, Nat.or_assoc, Nat.or_comm n, nat_join 30 1073741824 n (by decide) (by omega), nat_join 31 a (1073741824 + n) (by omega) (by omega), ← e1]
    congr 1
    omega
  cases o with
  | false =>
    have := key 0 (by decide) (by omega)
    rw [wrd_ff, wrd_ft, show (n : Int) = ((0 + n : Nat) : Int) by omega, show (1073741824 : Int) = ((1073741824 : Nat) : Int) from rfl, this]
    omega
  | true =>
    have := key 2147483648 (by decide) (by omega)
    rw [wrd_tf, wrd_tt, show (n : Int) + 2147483648 = ((2147483648 + n : Nat) : Int) by omega, show (1073741824 : Int) = ((1073741824 : Nat) : Int) from rfl, this]
    omega
theorem wrd_bd {i : Int} (h0 : 0 ≤ i) (h1 : i ≤ 2047) (o r : Bool) : 0 ≤ wrd o r i ∧ wrd o r i ≤ 4294967295 ∧ bad (wrd o r i) = false ∧ wOff (wrd o r i) = o ∧ wNo (wrd o r i) = r ∧ wrd o r i % 2048 = i := by
  unfold bad wOff wNo
  cases o <;> cases r
  · rw [wrd_ff]
    exact ⟨by omega, by omega, decide_eq_false (by omega), decide_eq_false (by omega), decide_eq_false (by omega), by omega⟩
  · rw [wrd_ft]
    exact ⟨by omega, by omega, decide_eq_false (by omega), decide_eq_false (by omega), decide_eq_true (by omega), by omega⟩
  · rw [wrd_tf]
    exact ⟨by omega, by omega, decide_eq_false (by omega), decide_eq_true (by omega), decide_eq_false (by omega), by omega⟩
  · rw [wrd_tt]
    exact ⟨by omega, by omega, decide_eq_false (by omega), decide_eq_true (by omega), decide_eq_true (by omega), by omega⟩
theorem spl_jn {i : Int} (h0 : 0 ≤ i) (h1 : i ≤ 2047) (o r : Bool) : spl (wrd o r i) = ((o, r, i), 0) := by
  obtain ⟨_, _, h2, h3, h4, h5⟩ := wrd_bd h0 h1 o r
  unfold spl
  rw [if_neg (by rw [h2]; decide), h3, h4, h5]
theorem jn_yes {i : Int} (h0 : 0 ≤ i) (h1 : i ≤ 2047) (o r : Bool) : jn o r i = (wrd o r i, 0) := if_pos ⟨h0, h1⟩
theorem jn_no {i : Int} (h : i < 0 ∨ 2047 < i) (o r : Bool) : jn o r i = (0, 9) := if_neg (by omega)
theorem spl_no {w : Int} (h : bad w = true) : spl w = ((false, false, 0), 4) := if_pos h
theorem spl_yes {w : Int} (h : bad w = false) : spl w = ((wOff w, wNo w, w % 2048), 0) := if_neg (by rw [h]; decide)
/-- What is taken apart is joined as it was. -/
theorem jn_spl {w : Int} (h0 : 0 ≤ w) (h1 : w ≤ 4294967295) (h : (spl w).2 = 0) : jn (spl w).1.1 (spl w).1.2.1 (spl w).1.2.2 = (w, 0) := by
  cases hb : bad w with
  | true => rw [spl_no hb] at h; exact absurd h (by decide)
  | false =>
    rw [spl_yes hb, jn_yes (by simp only; omega) (by simp only; omega)]
    have hb := of_decide_eq_false hb
    simp only
    unfold wrd wOff wNo
    congr 1
    simp only [decide_eq_true_eq]
    by_cases a : 2147483648 ≤ w
    · by_cases b : 1073741824 ≤ w % 2147483648
      · rw [if_pos a, if_pos b]; omega
      · rw [if_pos a, if_neg b]; omega
    · by_cases b : 1073741824 ≤ w % 2147483648
      · rw [if_neg a, if_pos b]; omega
      · rw [if_neg a, if_neg b]; omega
end Can
end Go.Proofs.YtdakogmkpcldbaaDoor
