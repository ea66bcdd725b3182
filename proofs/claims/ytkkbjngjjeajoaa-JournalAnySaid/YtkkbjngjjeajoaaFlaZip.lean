/-
  Programming without a cut, and with one, byte by byte: plain facts.
-/
import Derived.Test.YtkkbjngjjeajoaaFlaMath
namespace Go.Proofs.Ytkkbjngjjeajoaa
namespace Fla
open Go.RowKit Mem
set_option linter.unusedVariables false

theorem u8_ext {a b : UInt8} (h : ∀ i, i < 8 → a.toBitVec.getLsbD i = b.toBitVec.getLsbD i) : a = b := by
  apply UInt8.eq_of_toBitVec_eq
  exact BitVec.eq_of_getLsbD_eq h
def zipA (bs : List UInt8) (k : Nat) : List UInt8 → List UInt8
  | [] => bs
  | b :: r => zipA (bs.set k (bs.getD k 0 &&& b)) (k + 1) r
theorem zipA_len (x : List UInt8) : ∀ (bs : List UInt8) (k : Nat), (zipA bs k x).length = bs.length := by
  induction x with
  | nil => intro bs k; rfl
  | cons b r ih => intro bs k; unfold zipA; rw [ih]; simp
theorem getD_set (l : List UInt8) (k i : Nat) (v : UInt8) (h : k < l.length) : (l.set k v).getD i 0 = if i = k then v else l.getD i 0 := by
  simp only [List.getD_eq_getElem?_getD, List.getElem?_set]
  by_cases e : i = k
  · subst e; rw [if_pos rfl, if_pos rfl, if_pos h]; rfl
  · rw [if_neg (fun h => e h.symm), if_neg e]
theorem zipA_at (x : List UInt8) : ∀ (bs : List UInt8) (k i : Nat), k + x.length ≤ bs.length →
    (zipA bs k x).getD i 0 = if k ≤ i ∧ i < k + x.length then bs.getD i 0 &&& x.getD (i - k) 0 else bs.getD i 0 := by
  induction x with
  | nil => intro bs k i h; unfold zipA; rw [if_neg (by simp)]
  | cons b r ih =>
    intro bs k i h
    simp only [List.length_cons] at h ⊢
    unfold zipA
    rw [ih _ _ _ (by rw [List.length_set]; omega), getD_set _ _ _ _ (by omega)]
    by_cases h1 : k ≤ i ∧ i < k + (r.length + 1)
    · rw [if_pos h1]
      by_cases e : i = k
      · subst e
        rw [if_neg (by omega), if_pos rfl, Nat.sub_self]
        rfl
      · rw [if_pos (by omega), if_neg e, show i - k = i - (k + 1) + 1 by omega]
        rfl
    · rw [if_neg h1, if_neg (by omega), if_neg (by omega)]
theorem prog_plain (x : List UInt8) : ∀ (s : Fl) (k : Nat), s.pl = false → s.prog k x = ({ s with bs := zipA s.bs k x, ops := s.ops + x.length }, 0) := by
  induction x with
  | nil => intro s k h; simp [Fl.prog, zipA]
  | cons b r ih =>
    intro s k h
    have hp : s.put1 k b = { s with bs := s.bs.set k (s.bs.getD k 0 &&& b), ops := s.ops + 1 } := by
      unfold Fl.put1
      rw [cuts_no h, if_neg (by decide), past_no (s := s.with_ (s.bs.set k (s.bs.getD k 0 &&& b))) h]
      rfl
    unfold Fl.prog
    rw [cuts_no h, if_neg (by decide), hp, ih _ _ (by exact h)]
    simp [zipA]
    omega
/-- A cut behind a bytes. -/
theorem prog_cut (a : Nat) : ∀ (x : List UInt8) (s : Fl) (k : Nat), s.pl = true → s.ahead = (a : Int) → a < x.length →
    s.prog k x = ({ s with bs := (zipA s.bs k (x.take a)).set (k + a) (tornB ((zipA s.bs k (x.take a)).getD (k + a) 0) (x.getD a 0) s.mask), on := false, pl := false, ahead := 0, mask := 0, ops := s.ops + a }, 7) := by
  induction a with
  | zero =>
    intro x s k h h0 hx
    cases x with
    | nil => simp at hx
    | cons b r =>
      have hc : s.cuts = true := by unfold Fl.cuts; rw [h, h0]; rfl
      unfold Fl.prog Fl.put1
      rw [hc, if_pos rfl, if_pos rfl]
      simp [zipA, Fl.fell, Fl.with_]
  | succ a ih =>
    intro x s k h h0 hx
    cases x with
    | nil => simp at hx
    | cons b r =>
      have hc : s.cuts = false := by
        unfold Fl.cuts
        rw [h, h0]
        simp
        omega
      have hp : s.put1 k b = { s with bs := s.bs.set k (s.bs.getD k 0 &&& b), ahead := (a : Int), ops := s.ops + 1 } := by
        unfold Fl.put1
        rw [hc, if_neg (by decide)]
        unfold Fl.past
        have e : (s.with_ (s.bs.set k (s.bs.getD k 0 &&& b))).pl = true := h
        rw [if_pos e]
        have e2 : (s.with_ (s.bs.set k (s.bs.getD k 0 &&& b))).ahead - 1 = (a : Int) := by
          show s.ahead - 1 = _
          omega
        rw [e2]
        rfl
      unfold Fl.prog
      rw [hc, if_neg (by decide), hp, ih r _ (k + 1) (by exact h) (by rfl) (by simp at hx; omega)]
      simp only [List.take_succ_cons, zipA, List.getD_cons_succ, Prod.mk.injEq, and_true, Fl.mk.injEq, true_and]
      refine ⟨?_, by omega⟩
      rw [show k + 1 + a = k + (a + 1) by omega]
end Fla
end Go.Proofs.Ytkkbjngjjeajoaa
