/-
  Numbers in decimal digits, as plain functions: which texts have the form, what they say, what strconv makes of them.
-/
import Derived.Test.YtlibolkkklfdoaaDoorTypMath
import Derived.Lib.ParseIntB
import Derived.Lib.ItoaNum
namespace Go.Proofs.YtlibolkkklfdoaaDoor
namespace Dec

/-- A digit's byte, and what digits say, begun with a number. -/
def isD (c : UInt8) : Bool := decide (48 ≤ c.toNat ∧ c.toNat ≤ 57)
def val (acc : Nat) (l : List UInt8) : Nat := l.foldl (fun a c => a * 10 + (c.toNat - 48)) acc
theorem val_nil (acc : Nat) : val acc [] = acc := by simp [val]
theorem val_cons (acc : Nat) (c : UInt8) (r : List UInt8) : val acc (c :: r) = val (acc * 10 + (c.toNat - 48)) r := by simp [val]
theorem val_le (l : List UInt8) : ∀ acc, acc ≤ val acc l := by
  induction l with
  | nil => intro acc; exact Nat.le_refl _
  | cons c r ih => intro acc; rw [val_cons]; exact Nat.le_trans (by omega) (ih _)
theorem val_snoc (acc : Nat) (l : List UInt8) (c : UInt8) : val acc (l ++ [c]) = val acc l * 10 + (c.toNat - 48) := by
  unfold val
  rw [List.foldl_append]
  rfl
/-- Is it digits in the form, behind a sign or not? -/
def form (neg : Bool) (D : List UInt8) : Bool :=
  if D = [48] then !neg else match D with
    | [] => false
    | c :: r => decide (c.toNat ≠ 48) && (c :: r).all isD
def splitNeg (l : List UInt8) : Bool × List UInt8 :=
  match l with
  | 45 :: r => (true, r)
  | _ => (false, l)
def decB (l : List UInt8) : Bool := form (splitNeg l).1 (splitNeg l).2
/-- The number of a text that has the form; none: no number of 64 bits. -/
def numB (l : List UInt8) : Option Int :=
  if (splitNeg l).1 then (if val 0 (splitNeg l).2 ≤ 9223372036854775808 then some (-(val 0 (splitNeg l).2 : Int)) else none)
  else (if val 0 (splitNeg l).2 < 9223372036854775808 then some (val 0 (splitNeg l).2 : Int) else none)
theorem numB_bd {l : List UInt8} {v : Int} (h : numB l = some v) : -9223372036854775808 ≤ v ∧ v ≤ 9223372036854775807 := by
  unfold numB at h
  cases hs : (splitNeg l).1 with
  | true =>
    rw [hs, if_pos rfl] at h
    by_cases hv : val 0 (splitNeg l).2 ≤ 9223372036854775808
    · rw [if_pos hv] at h; cases h; omega
    · rw [if_neg hv] at h; cases h
  | false =>
    rw [hs, if_neg (by decide)] at h
    by_cases hv : val 0 (splitNeg l).2 < 9223372036854775808
    · rw [if_pos hv] at h; cases h; omega
    · rw [if_neg hv] at h; cases h
theorem form_digits {neg : Bool} {D : List UInt8} (h : form neg D = true) : D ≠ [] ∧ ∀ c ∈ D, isD c = true := by
  unfold form at h
  by_cases h0 : D = [48]
  · subst h0
    exact ⟨by simp, fun c hc => by simp at hc; subst hc; rfl⟩
  · rw [if_neg h0] at h
    cases D with
    | nil => cases h
    | cons c r =>
      simp only [Bool.and_eq_true] at h
      exact ⟨by simp, fun x hx => List.all_eq_true.1 h.2 x hx⟩
/-- strconv's digits. -/
theorem parseM (l : List UInt8) : ∀ acc, acc ≤ 18446744073709551615 → (∀ c ∈ l, isD c = true) →
    Lib.parseUintM (2 ^ 64 - 1) acc l = if val acc l ≤ 18446744073709551615 then .ok (val acc l) else .range := by
  induction l with
  | nil => intro acc ha _; simp [Lib.parseUintM, val_nil, ha]
  | cons c r ih =>
    intro acc ha hd
    have hc : 48 ≤ c.toNat ∧ c.toNat ≤ 57 := by simpa [isD] using hd c (by simp)
    rw [val_cons]
    have hle := val_le r (acc * 10 + (c.toNat - 48))
    unfold Lib.parseUintM
    rw [if_pos hc]
    have e64 : (2 : Nat) ^ 64 - 1 = 18446744073709551615 := by decide
    by_cases h1 : 1844674407370955162 ≤ acc
    · rw [if_pos h1, if_neg (by omega)]
    · rw [if_neg h1]
      by_cases h2 : 2 ^ 64 - 1 < acc * 10 + (c.toNat - 48)
      · rw [if_pos h2, if_neg (by omega)]
      · rw [if_neg h2]
        exact ih _ (by omega) (fun x hx => hd x (by simp [hx]))
theorem split_neg (l : List UInt8) : (∃ r, l = 45 :: r ∧ splitNeg l = (true, r)) ∨ (splitNeg l = (false, l) ∧ ∀ r, l ≠ 45 :: r) := by
  unfold splitNeg
  split
  · left; exact ⟨_, rfl, rfl⟩
  · rename_i h
    right; exact ⟨rfl, fun r e => h r e⟩
/-- What strconv makes of a text in the form. -/
theorem parse_form {l : List UInt8} (h : decB l = true) : Lib.parseIntB 64 l = match numB l with | some v => .ok v | none => .range := by
  have e63 : (2 : Nat) ^ (64 - 1) = 9223372036854775808 := by decide
  unfold decB at h
  rcases split_neg l with ⟨r, rfl, hs⟩ | ⟨hs, hne⟩
  · rw [hs] at h
    obtain ⟨hnil, hd⟩ := form_digits h
    have hp := parseM r 0 (by omega) hd
    unfold Lib.parseIntB Lib.parseUintB numB
    rw [hs]
    simp only [show (45 : UInt8).toNat = 45 from rfl, or_true, if_true, hp, if_neg hnil, not_true_eq_false, false_and, if_false, true_and, e63]
    by_cases h1 : val 0 r ≤ 18446744073709551615
    · simp only [if_pos h1]
      by_cases h2 : val 0 r ≤ 9223372036854775808
      · rw [if_neg (by omega), if_pos h2]
      · rw [if_pos (by omega), if_neg h2]
    · simp only [if_neg h1]
      rw [if_neg (show ¬ val 0 r ≤ 9223372036854775808 by omega)]
  · rw [hs] at h
    obtain ⟨hnil, hd⟩ := form_digits h
    have hp := parseM l 0 (by omega) hd
    cases l with
    | nil => exact absurd rfl hnil
    | cons c r =>
      have hc : 48 ≤ c.toNat ∧ c.toNat ≤ 57 := by simpa [isD] using hd c (by simp)
      have n43 : ¬ (c.toNat = 43 ∨ c.toNat = 45) := by omega
      have n45 : ¬ c.toNat = 45 := by omega
      unfold Lib.parseIntB Lib.parseUintB numB
      rw [hs]
      simp only [if_neg n43, if_neg n45, hp, reduceCtorEq, e63]
      by_cases h1 : val 0 (c :: r) ≤ 18446744073709551615
      · simp only [if_pos h1]
        by_cases h2 : val 0 (c :: r) < 9223372036854775808
        · have h3 : ¬ 9223372036854775808 ≤ val 0 (c :: r) := by omega
          simp [n45, h2, h3]
        · have h3 : 9223372036854775808 ≤ val 0 (c :: r) := by omega
          simp [n45, h2, h3]
      · simp only [if_neg h1]
        have h2 : ¬ val 0 (c :: r) < 9223372036854775808 := by omega
        simp [h2]
end Dec
end Go.Proofs.YtlibolkkklfdoaaDoor
