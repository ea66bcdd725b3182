/-
  Plain facts of a timer that runs once, beside others; of the list of those that run out.
-/
import Derived.Test.YtlojomeofgnfjaaClkOnly
namespace Go.Proofs.Ytlojomeofgnfjaa
namespace Clk
open Go.RowKit Mem
set_option linter.unusedVariables false
set_option linter.unusedSimpArgs false

/-- One timer was set to run once, for n ticks; T of them are gone. -/
structure Onc (n k T : Nat) (s : Ck) : Prop where
  l : s.l k = ((n - T : Nat) : Int)
  a : s.a k = 0
section
variable {n k T : Nat} {s : Ck}
theorem Onc.begin (hk : k < 16) (h1 : 1 ≤ n) (h2 : n ≤ 1000) : (Ck.zero.start (k : Int) (n : Int) 0).2 = 0 ∧ Onc n k 0 (Ck.zero.start (k : Int) (n : Int) 0).1 := by
  rw [start_nat _ hk (by omega) (by omega)]
  exact ⟨rfl, by simp [upd], by simp [upd]⟩
theorem Onc.start (h : Onc n k T s) {x : Int} (hx : x ≠ (k : Int)) (t g : Int) : Onc n k T (s.start x t g).1 := by
  unfold Ck.start good
  split
  · rename_i e
    simp at e
    have hn : k ≠ x.toNat := fun e2 => by omega
    exact ⟨by simpa [upd, hn] using h.l, by simpa [upd, hn] using h.a⟩
  · exact h
theorem Onc.stop (h : Onc n k T s) {x : Int} (hx : x ≠ (k : Int)) : Onc n k T (s.stop x) := by
  unfold Ck.stop named
  split
  · rename_i e
    simp at e
    have hn : k ≠ x.toNat := fun e2 => by omega
    exact ⟨by simpa [upd, hn] using h.l, by simpa [upd, hn] using h.a⟩
  · exact h
theorem Onc.tick (h : Onc n k T s) (hk : k < 16) : Onc n k (T + 1) s.tick := by
  refine ⟨?_, h.a⟩
  rw [tick_l s hk]
  unfold tl
  have hl := h.l
  by_cases h0 : 0 < s.l k
  · rw [if_pos h0]
    by_cases h1 : s.l k = 1
    · rw [if_pos h1, h.a]; omega
    · rw [if_neg h1]; omega
  · rw [if_neg h0]; omega
theorem Onc.one (h : Onc n k T s) : s.l k = 1 ↔ T + 1 = n := by
  have := h.l
  omega
end
theorem outs_lt (L : Nat → Int) : ∀ m, ∀ x ∈ outs L m, x < (m : Int) := by
  intro m x hx
  obtain ⟨j, a, rfl, _⟩ := (mem_outs m).1 hx
  omega
theorem outs_rise (L : Nat → Int) : ∀ m, (outs L m).Pairwise (· < ·)
  | 0 => by simp [outs]
  | m + 1 => by
    unfold outs
    split
    · rw [List.pairwise_append]
      exact ⟨outs_rise L m, by simp, fun a ha b hb => by simp at hb; subst hb; exact outs_lt L m a ha⟩
    · exact outs_rise L m
theorem outs_count (L : Nat → Int) (k : Nat) : ∀ m, (outs L m).count (k : Int) = if k < m ∧ L k = 1 then 1 else 0
  | 0 => by simp [outs]
  | m + 1 => by
    have ih := outs_count L k m
    unfold outs
    by_cases e : m = k
    · subst e
      by_cases h1 : L m = 1
      · rw [if_pos h1, List.count_append, ih]; simp [h1]
      · rw [if_neg h1, ih]; simp [h1]
    · by_cases h1 : L m = 1
      · rw [if_pos h1, List.count_append, ih]
        have : List.count (k : Int) [(m : Int)] = 0 := by
          rw [List.count_singleton]
          simp
          omega
        rw [this]
        by_cases h2 : k < m
        · simp [h2, show k < m + 1 by omega]
        · simp [h2, show ¬ k < m + 1 by omega]
      · rw [if_neg h1, ih]
        by_cases h2 : k < m
        · simp [h2, show k < m + 1 by omega]
        · simp [h2, show ¬ k < m + 1 by omega]
/-- A list as it is told: rising, within the names; how often k is met up to a place. -/
structure Told (zs : List Int) (k : Int) (one : Bool) : Prop where
  len : zs.length ≤ 16
  bd : ∀ j, j < zs.length → 0 ≤ zs.getD j 0 ∧ zs.getD j 0 < 16
  rise : ∀ j, j + 1 < zs.length → zs.getD j 0 < zs.getD (j + 1) 0
  hit : ∀ j, j < zs.length → zs.getD j 0 = k → one = true
  all : zs.count k = if one = true then 1 else 0
theorem told_outs (L : Nat → Int) {k : Nat} (hk : k < 16) : Told (outs L 16) (k : Int) (decide (L k = 1)) := by
  have mem : ∀ j, j < (outs L 16).length → (outs L 16).getD j 0 ∈ outs L 16 := fun j hj => by
    rw [List.getD_eq_getElem?_getD, List.getElem?_eq_getElem hj]; exact List.getElem_mem hj
  refine ⟨outs_length L 16, fun j hj => ?_, fun j hj => ?_, fun j hj e => ?_, ?_⟩
  · obtain ⟨i, a, e, _⟩ := (mem_outs 16).1 (mem j hj)
    rw [e]
    omega
  · have := List.pairwise_iff_getElem.1 (outs_rise L 16) j (j + 1) (by omega) hj (by omega)
    simpa [List.getD_eq_getElem?_getD, hj, show j < (outs L 16).length by omega] using this
  · obtain ⟨i, a, e2, h⟩ := (mem_outs 16).1 (mem j hj)
    rw [e] at e2
    obtain rfl : k = i := by omega
    exact decide_eq_true h
  · rw [outs_count]
    by_cases h1 : L k = 1 <;> simp [h1, hk]
theorem count_more {zs : List Int} {j : Nat} (hj : j < zs.length) (k : Int) : (zs.take (j + 1)).count k = (zs.take j).count k + if zs.getD j 0 = k then 1 else 0 := by
  rw [List.take_add_one, List.count_append]
  simp [hj, List.count_singleton]
theorem count_le {zs : List Int} (j : Nat) (k : Int) (h : zs.length ≤ 16) : (zs.take j).count k ≤ 16 := Nat.le_trans List.count_le_length (by rw [List.length_take]; omega)
end Clk
end Go.Proofs.Ytlojomeofgnfjaa
