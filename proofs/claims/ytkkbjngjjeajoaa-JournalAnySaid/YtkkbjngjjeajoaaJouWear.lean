/-
  How far the wears of a journal's sectors drift apart: the least worn of the others is begun next. No program is named here.
  Which of a journal's sectors has the newest record, and what becomes of that when a record is laid, or torn. No program is named here.
-/
import Derived.Test.YtkkbjngjjeajoaaMem
import Derived.Test.YtkkbjngjjeajoaaSecLaid
namespace Go.Proofs.Ytkkbjngjjeajoaa
namespace Jou

/-- Behind x failures: no two wears differ by more than 2 + x; of the newest record's sector, and of one that is clean from the first byte on, no other one is ahead by more than 1 + x. -/
def Drift (N : Nat) (w : Nat → Int) (s : Option Nat) (cl : Nat → Bool) (x : Int) : Prop :=
  ∀ i j, i < N → j < N → w j - w i ≤ 2 + x ∧ (s = some i → w j - w i ≤ 1 + x) ∧ (cl i = true → w j - w i ≤ 1 + x)
def up (w : Nat → Int) (t : Nat) : Nat → Int := fun i => if i = t then w t + 1 else w i
/-- t is the least worn of the others. -/
def Least (N : Nat) (w : Nat → Int) (s : Option Nat) (t : Nat) : Prop := t < N ∧ s ≠ some t ∧ ∀ i, i < N → s ≠ some i → w t ≤ w i

theorem Drift.start (N : Nat) (cl : Nat → Bool) {w : Nat → Int} (h : ∀ i, i < N → w i = 0) : Drift N w none cl 0 := by
  intro i j hi hj
  rw [h i hi, h j hj]
  exact ⟨by omega, fun _ => by omega, fun _ => by omega⟩
section
variable {N t : Nat} {w : Nat → Int} {s : Option Nat} {cl cl' : Nat → Bool} {x : Int}
theorem Drift.more (h : Drift N w s cl x) (hc : ∀ i, i < N → cl' i = true → cl i = true) {y : Int} (hy : x ≤ y) : Drift N w s cl' y := by
  intro i j hi hj
  obtain ⟨h1, h2, h3⟩ := h i j hi hj
  exact ⟨by omega, fun e => by have := h2 e; omega, fun e => by have := h3 (hc i hi e); omega⟩
/-- It is erased, and the record stands there. -/
theorem Drift.erased (h : Drift N w s cl x) (x0 : 0 ≤ x) (ht : Least N w s t) (hs : ∀ i, s = some i → cl i = false) (hc : ∀ i, i < N → cl' i = true → i ≠ t ∧ cl i = true) : Drift N (up w t) (some t) cl' x := by
  obtain ⟨htN, hst, hle⟩ := ht
  intro i j hi hj
  obtain ⟨h1, h2, h3⟩ := h i j hi hj
  obtain ⟨g1, g2, g3⟩ := h i t hi htN
  obtain ⟨k1, _, _⟩ := h t j htN hj
  have hl := hle i hi
  have hcs := hs i
  have hci := hc i hi
  unfold up
  by_cases hit : i = t
  · subst hit
    by_cases hjt : j = i
    · subst hjt
      simp only [if_true]
      exact ⟨by omega, fun _ => by omega, fun _ => by omega⟩
    · simp only [if_true, if_neg hjt]
      exact ⟨by omega, fun _ => by omega, fun e => by omega⟩
  · by_cases hjt : j = t
    · subst hjt
      simp only [if_true, if_neg hit]
      by_cases hsi : s = some i
      · have := g2 hsi
        refine ⟨by omega, fun e => by injection e with e; omega, fun e => ?_⟩
        have := (hci e).2
        rw [hcs hsi] at this
        cases this
      · have := hl hsi
        exact ⟨by omega, fun e => by injection e with e; omega, fun e => by omega⟩
    · simp only [if_neg hit, if_neg hjt]
      exact ⟨h1, fun e => by injection e with e; omega, fun e => h3 (hci e).2⟩
/-- It is erased, whole or in part, and the power fails. -/
theorem Drift.torn (h : Drift N w s cl x) (x0 : 0 ≤ x) (ht : Least N w s t) (hs : ∀ i, s = some i → cl i = false) (hc : ∀ i, i < N → cl' i = true → i = t ∨ cl i = true) : Drift N (up w t) s cl' (x + 1) := by
  obtain ⟨htN, hst, hle⟩ := ht
  intro i j hi hj
  obtain ⟨h1, h2, h3⟩ := h i j hi hj
  obtain ⟨g1, g2, g3⟩ := h i t hi htN
  obtain ⟨k1, _, _⟩ := h t j htN hj
  have hl := hle i hi
  have hcs := hs i
  have hci := hc i hi
  unfold up
  by_cases hit : i = t
  · subst hit
    by_cases hjt : j = i
    · subst hjt
      simp only [if_true]
      exact ⟨by omega, fun _ => by omega, fun _ => by omega⟩
    · simp only [if_true, if_neg hjt]
      exact ⟨by omega, fun e => absurd e hst, fun e => by omega⟩
  · by_cases hjt : j = t
    · subst hjt
      simp only [if_true, if_neg hit]
      by_cases hsi : s = some i
      · have := g2 hsi
        refine ⟨by omega, fun _ => by omega, fun e => ?_⟩
        rcases hci e with e2 | e2
        · exact absurd e2 hit
        · rw [hcs hsi] at e2; cases e2
      · have := hl hsi
        exact ⟨by omega, fun e => absurd e hsi, fun e => by omega⟩
    · simp only [if_neg hit, if_neg hjt]
      refine ⟨by omega, fun e => by have := h2 e; omega, fun e => ?_⟩
      rcases hci e with e2 | e2
      · exact absurd e2 hit
      · have := h3 e2; omega
/-- A clean one is begun, with no erasing. -/
theorem Drift.begun (h : Drift N w s cl x) (hct : cl t = true) (hc : ∀ i, i < N → cl' i = true → cl i = true) : Drift N w (some t) cl' x := by
  intro i j hi hj
  obtain ⟨h1, _, h3⟩ := h i j hi hj
  exact ⟨h1, fun e => by injection e with e; subst e; exact h3 hct, fun e => h3 (hc i hi e)⟩
end
end Jou
end Go.Proofs.Ytkkbjngjjeajoaa

namespace Go.Proofs.Ytkkbjngjjeajoaa
namespace Jou
open Sec

/-- The sector whose last record has the greatest number, the first of these. -/
def Newest (N : Nat) (L : Nat → Lk) : Option Nat → Prop
  | none => ∀ i, i < N → (L i).cnt = 0
  | some s => s < N ∧ 0 < (L s).cnt ∧ ∀ i, i < N → 0 < (L i).cnt → (L i).n ≤ (L s).n ∧ ((L i).n = (L s).n → s ≤ i)
def upL (L : Nat → Lk) (t : Nat) (y : Lk) : Nat → Lk := fun i => if i = t then y else L i
theorem Newest.unique {N : Nat} {L : Nat → Lk} {a b : Option Nat} (ha : Newest N L a) (hb : Newest N L b) : a = b := by
  cases a with
  | none =>
    cases b with
    | none => rfl
    | some b =>
      have := ha b hb.1
      have := hb.2.1
      omega
  | some a =>
    cases b with
    | none =>
      have := hb a ha.1
      have := ha.2.1
      omega
    | some b =>
      have h1 := ha.2.2 b hb.1 hb.2.1
      have h2 := hb.2.2 a ha.1 ha.2.1
      have : a = b := by omega
      rw [this]
theorem Newest.congr {N : Nat} {L M : Nat → Lk} {s : Option Nat} (h : Newest N L s) (e : ∀ i, i < N → M i = L i) : Newest N M s := by
  cases s with
  | none => exact fun i hi => by rw [e i hi]; exact h i hi
  | some s =>
    refine ⟨h.1, by rw [e s h.1]; exact h.2.1, fun i hi hc => ?_⟩
    rw [e i hi] at hc ⊢
    rw [e s h.1]
    exact h.2.2 i hi hc
/-- A record of a greater number is laid in sector t: that is the newest one. -/
theorem Newest.laid {N : Nat} {L : Nat → Lk} {s : Option Nat} (h : Newest N L s) {t : Nat} (ht : t < N) {y : Lk} (hy : 0 < y.cnt) (hn : ∀ a, s = some a → (L a).n < y.n) : Newest N (upL L t y) (some t) := by
  refine ⟨ht, by simp [upL, hy], fun i hi hc => ?_⟩
  by_cases hit : i = t
  · subst hit; simp
  · simp only [upL, if_neg hit, if_true] at hc ⊢
    cases s with
    | none =>
      have := h i hi
      omega
    | some a =>
      have h1 := (h.2.2 i hi hc).1
      have h2 := hn a rfl
      constructor <;> omega
/-- Another sector than the newest one's holds nothing now. -/
theorem Newest.emptied {N : Nat} {L : Nat → Lk} {s : Option Nat} (h : Newest N L s) {t : Nat} (ht : s ≠ some t) {y : Lk} (hy : y.cnt = 0) : Newest N (upL L t y) s := by
  cases s with
  | none =>
    intro i hi
    by_cases hit : i = t
    · simp [upL, hit, hy]
    · simp [upL, hit]; exact h i hi
  | some a =>
    have hat : a ≠ t := fun e => ht (by rw [e])
    refine ⟨h.1, by simp [upL, hat]; exact h.2.1, fun i hi hc => ?_⟩
    by_cases hit : i = t
    · simp [upL, hit, hy] at hc
    · simp only [upL, if_neg hit, if_neg hat] at hc ⊢
      exact h.2.2 i hi hc
end Jou
end Go.Proofs.Ytkkbjngjjeajoaa
