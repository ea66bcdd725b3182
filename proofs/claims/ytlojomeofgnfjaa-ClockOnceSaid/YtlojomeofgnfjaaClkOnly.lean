/-
  Plain facts of a clock of which one timer is looked at.
-/
import Derived.Test.YtlojomeofgnfjaaClkKnown
namespace Go.Proofs.Ytlojomeofgnfjaa
namespace Clk
open Go.RowKit Mem
set_option linter.unusedVariables false
set_option linter.unusedSimpArgs false

theorem outs_only {L : Nat → Int} {k : Nat} (h : ∀ j, j < 16 → j ≠ k → L j ≠ 1) : ∀ m, m ≤ 16 → outs L m = if k < m ∧ L k = 1 then [(k : Int)] else []
  | 0, _ => by simp [outs]
  | m + 1, hm => by
    have ih := outs_only h m (by omega)
    by_cases e : m = k
    · subst e
      simp only [outs, ih]
      by_cases h1 : L m = 1
      · simp [h1]
      · simp [h1]
    · have h1 := h m (by omega) e
      simp only [outs]
      rw [if_neg h1, ih]
      by_cases h2 : k < m
      · simp [h2, show k < m + 1 by omega]
      · simp [h2, show ¬ k < m + 1 by omega]
theorem nx_only {L : Nat → Int} {k : Nat} (h : ∀ j, j < 16 → j ≠ k → L j = 0) (hp : 0 < L k) : ∀ m, m ≤ 16 → nx L m = if k < m then L k else 0
  | 0, _ => by simp [nx]
  | m + 1, hm => by
    have ih := nx_only h hp m (by omega)
    by_cases e : m = k
    · subst e
      simp only [nx, ih]
      simp [hp]
    · have h1 := h m (by omega) e
      simp only [nx]
      rw [if_neg (by omega), ih]
      by_cases h2 : k < m
      · simp [h2, show k < m + 1 by omega]
      · simp [h2, show ¬ k < m + 1 by omega]
theorem named_nat {k : Nat} (h : k < 16) : named (k : Int) = true := by simp [named]; omega
theorem left_nat (s : Ck) {k : Nat} (h : k < 16) : s.left (k : Int) = s.l k := by
  unfold Ck.left
  rw [if_pos (named_nat h), Int.toNat_natCast]
theorem stop_nat (s : Ck) {k : Nat} (h : k < 16) : s.stop (k : Int) = ⟨upd s.l k 0, upd s.a k 0⟩ := by
  unfold Ck.stop
  rw [if_pos (named_nat h), Int.toNat_natCast]
theorem start_nat (s : Ck) {k : Nat} (h : k < 16) {t : Int} (h1 : 1 ≤ t) (h2 : t ≤ 1048576) (g : Int) : s.start (k : Int) t g = (⟨upd s.l k t, upd s.a k g⟩, 0) := by
  unfold Ck.start
  rw [if_pos (by simp [good]; omega), Int.toNat_natCast]
theorem tick_l (s : Ck) {k : Nat} (h : k < 16) : s.tick.l k = tl s k := by simp [Ck.tick, tk, h]

/-- One timer runs, again and again, for n ticks; r of them are gone. -/
structure Evr (n k r : Nat) (s : Ck) : Prop where
  l : s.l k = (n : Int) - (r : Int)
  a : s.a k = (n : Int)
  o : ∀ j, j < 16 → j ≠ k → s.l j = 0
theorem Evr.begin {n k : Nat} (hk : k < 16) (h1 : 1 ≤ n) (h2 : n ≤ 1000) : (Ck.zero.start (k : Int) (n : Int) (n : Int)).2 = 0 ∧ Evr n k 0 (Ck.zero.start (k : Int) (n : Int) (n : Int)).1 := by
  rw [start_nat _ hk (by omega) (by omega)]
  exact ⟨rfl, by simp [upd], by simp [upd], fun j _ hj => by simp [upd, hj, Ck.zero]⟩
/-- A tick: out just when none is left. -/
theorem Evr.tick {n k r : Nat} {s : Ck} (h : Evr n k r s) (hk : k < 16) (hr : r < n) : outs s.l 16 = (if r + 1 = n then [(k : Int)] else []) ∧ Evr n k (if r + 1 = n then 0 else r + 1) s.tick := by
  have o1 : ∀ j, j < 16 → j ≠ k → s.l j ≠ 1 := fun j a b => by rw [h.o j a b]; decide
  have hl := h.l
  refine ⟨?_, ?_, h.a, fun j a b => ?_⟩
  · rw [outs_only o1 16 (Nat.le_refl _)]
    by_cases e : r + 1 = n
    · rw [if_pos e, if_pos ⟨hk, by omega⟩]
    · rw [if_neg e, if_neg (fun h2 => by omega)]
  · rw [tick_l s hk]
    unfold tl
    rw [if_pos (by omega)]
    by_cases e : r + 1 = n
    · rw [if_pos (by omega), if_pos e, h.a]; simp
    · rw [if_neg (by omega), if_neg e]; omega
  · rw [tick_l s a]
    unfold tl
    rw [h.o j a b]
    simp
theorem Evr.nx {n k r : Nat} {s : Ck} (h : Evr n k r s) (hk : k < 16) (hr : r < n) : nx s.l 16 = (n : Int) - (r : Int) := by
  rw [nx_only h.o (by rw [h.l]; omega) 16 (Nat.le_refl _), if_pos hk, h.l]
theorem Evr.stop {n k r : Nat} {s : Ck} (h : Evr n k r s) (hk : k < 16) : (s.stop (k : Int)).left (k : Int) = 0 ∧ outs (s.stop (k : Int)).l 16 = [] := by
  rw [stop_nat s hk, left_nat _ hk]
  refine ⟨by simp [upd], ?_⟩
  rw [outs_only (k := k) (fun j a b => by simp [upd, b, h.o j a b]) 16 (Nat.le_refl _), if_neg (by simp [upd])]
theorem mod_step {t n : Nat} (h1 : 1 ≤ t) (hn : 1 ≤ n) : (t % n = if (t - 1) % n + 1 = n then 0 else (t - 1) % n + 1) := by
  have h := Nat.mod_lt (t - 1) (show 0 < n by omega)
  have e : t = (t - 1) + 1 := by omega
  rw [e, Nat.add_sub_cancel]
  by_cases h2 : (t - 1) % n + 1 = n
  · rw [if_pos h2, Nat.add_mod]
    by_cases h3 : n = 1
    · subst h3; omega
    · rw [Nat.mod_eq_of_lt (show 1 < n by omega), h2, Nat.mod_self]
  · rw [if_neg h2, Nat.add_mod, Nat.mod_eq_of_lt (show 1 < n by omega), Nat.mod_eq_of_lt (by omega)]
end Clk
end Go.Proofs.Ytlojomeofgnfjaa
