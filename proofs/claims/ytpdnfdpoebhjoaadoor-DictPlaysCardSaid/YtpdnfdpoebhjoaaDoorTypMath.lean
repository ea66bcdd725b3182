/-
  The data types: a table of what is known of each number, as plain functions.
-/
import Derived.Test.YtpdnfdpoebhjoaaDoorMem
namespace Go.Proofs.YtpdnfdpoebhjoaaDoor
namespace Typ

/-- The row of a number; 22: none. -/
def idx (t : Int) : Nat := if 0 ≤ t ∧ t < 22 then t.toNat else 22
def names : List (List UInt8) := [[], [98, 111, 111, 108], [105, 56], [105, 49, 54], [105, 51, 50], [117, 56], [117, 49, 54], [117, 51, 50], [], [116, 101, 120, 116], [98, 121, 116, 101, 115], [], [], [], [], [100, 111, 109, 97, 105, 110], [], [], [], [], [], [105, 54, 52]]
def sizes : List Int := [0, 1, 1, 2, 4, 1, 2, 4, 0, 0, 0, 0, 0, 0, 0, 0, 0, 0, 0, 0, 0, 8]
def bitss : List Int := [0, 1, 8, 16, 32, 8, 16, 32, 0, 0, 0, 0, 0, 0, 0, 0, 0, 0, 0, 0, 0, 64]
def lows : List Int := [0, 0, -128, -32768, -2147483648, 0, 0, 0, 0, 0, 0, 0, 0, 0, 0, 0, 0, 0, 0, 0, 0, -9223372036854775808]
def highs : List Int := [0, 1, 127, 32767, 2147483647, 255, 65535, 4294967295, 0, 0, 0, 0, 0, 0, 0, 0, 0, 0, 0, 0, 0, 9223372036854775807]
def name (t : Int) : List UInt8 := names.getD (idx t) []
def size (t : Int) : Int := sizes.getD (idx t) 0
def bits (t : Int) : Int := bitss.getD (idx t) 0
def low (t : Int) : Int := lows.getD (idx t) 0
def high (t : Int) : Int := highs.getD (idx t) 0
def known (t : Int) : Bool := decide (name t ≠ [])
def isNum (t : Int) : Bool := decide (0 < bits t)
def signed (t : Int) : Bool := decide (low t < 0)

theorem idx_le (t : Int) : idx t ≤ 22 := by unfold idx; split <;> omega
theorem idx_at (n : Nat) (h : n < 22) : idx (n : Int) = n := by unfold idx; rw [if_pos (by omega)]; simp
theorem idx_in {t : Int} (h0 : 0 ≤ t) (h1 : t < 22) : idx t = t.toNat := if_pos ⟨h0, h1⟩
theorem idx_out {t : Int} (h : t < 0 ∨ 22 ≤ t) : idx t = 22 := if_neg (by omega)
/-- One of the numbers of the table, or none of them. -/
theorem cases_ (t : Int) : (∃ n : Nat, n < 22 ∧ t = (n : Int)) ∨ (t < 0 ∨ 22 ≤ t) := by
  by_cases h : 0 ≤ t ∧ t < 22
  · exact .inl ⟨t.toNat, by omega, by omega⟩
  · exact .inr (by omega)
theorem out_all {t : Int} (h : t < 0 ∨ 22 ≤ t) : name t = [] ∧ size t = 0 ∧ bits t = 0 ∧ low t = 0 ∧ high t = 0 := by
  unfold name size bits low high
  rw [idx_out h]
  exact ⟨rfl, rfl, rfl, rfl, rfl⟩
theorem bd (t : Int) : 0 ≤ size t ∧ size t ≤ 8 ∧ 0 ≤ bits t ∧ bits t ≤ 64 ∧ -9223372036854775808 ≤ low t ∧ low t ≤ 0 ∧ 0 ≤ high t ∧ high t ≤ 9223372036854775807 ∧ (name t).length ≤ 6 := by
  have h : ∀ n, n ≤ 22 → 0 ≤ sizes.getD n 0 ∧ sizes.getD n 0 ≤ 8 ∧ 0 ≤ bitss.getD n 0 ∧ bitss.getD n 0 ≤ 64 ∧ -9223372036854775808 ≤ lows.getD n 0 ∧ lows.getD n 0 ≤ 0 ∧ 0 ≤ highs.getD n 0 ∧ highs.getD n 0 ≤ 9223372036854775807 ∧ (names.getD n []).length ≤ 6 := by decide +kernel
  exact h _ (idx_le t)
/-- What a number's type is, row by row. -/
theorem num_facts (t : Int) (h : isNum t = true) : (size t = 1 ∨ size t = 2 ∨ size t = 4 ∨ size t = 8) ∧ known t = true ∧
    ((signed t = true ∧ low t = -(256 ^ (size t).toNat / 2) ∧ high t = 256 ^ (size t).toNat / 2 - 1) ∨ (signed t = false ∧ low t = 0 ∧ t ≠ 1 ∧ high t = 256 ^ (size t).toNat - 1 ∧ size t ≤ 4) ∨ (t = 1 ∧ signed t = false ∧ low t = 0 ∧ high t = 1 ∧ size t = 1)) := by
  rcases cases_ t with ⟨n, hn, rfl⟩ | h0
  · have k1 : ∀ n, n < 22 → isNum (n : Nat) = true → (size (n : Nat) = 1 ∨ size (n : Nat) = 2 ∨ size (n : Nat) = 4 ∨ size (n : Nat) = 8) := by decide +kernel
    have k2 : ∀ n, n < 22 → isNum (n : Nat) = true → known (n : Nat) = true := by decide +kernel
    have k3 : ∀ n, n < 22 → isNum (n : Nat) = true → signed (n : Nat) = true → low (n : Nat) = -(256 ^ (size (n : Nat)).toNat / 2) := by decide +kernel
    have k4 : ∀ n, n < 22 → isNum (n : Nat) = true → signed (n : Nat) = true → high (n : Nat) = 256 ^ (size (n : Nat)).toNat / 2 - 1 := by decide +kernel
    have k5 : ∀ n, n < 22 → isNum (n : Nat) = true → signed (n : Nat) = false → low (n : Nat) = 0 := by decide +kernel
    have k6 : ∀ n, n < 22 → isNum (n : Nat) = true → signed (n : Nat) = false → n ≠ 1 → high (n : Nat) = 256 ^ (size (n : Nat)).toNat - 1 := by decide +kernel
    have k7 : ∀ n, n < 22 → isNum (n : Nat) = true → signed (n : Nat) = false → n ≠ 1 → size (n : Nat) ≤ 4 := by decide +kernel
    refine ⟨k1 n hn h, k2 n hn h, ?_⟩
    cases hs : signed (n : Int) with
    | true => exact .inl ⟨rfl, k3 n hn h hs, k4 n hn h hs⟩
    | false =>
      by_cases h1 : n = 1
      · subst h1; exact .inr (.inr ⟨rfl, rfl, rfl, rfl, rfl⟩)
      · exact .inr (.inl ⟨rfl, k5 n hn h hs, by omega, k6 n hn h hs h1, k7 n hn h hs h1⟩)
  · have := (out_all h0).2.2.1
    simp [isNum, this] at h
theorem not_num (t : Int) (h : isNum t = false) : bits t = 0 ∧ size t = 0 ∧ low t = 0 ∧ high t = 0 ∧ signed t = false := by
  rcases cases_ t with ⟨n, hn, rfl⟩ | h0
  · have k1 : ∀ n, n < 22 → isNum (n : Nat) = false → bits (n : Nat) = 0 := by decide +kernel
    have k2 : ∀ n, n < 22 → isNum (n : Nat) = false → size (n : Nat) = 0 := by decide +kernel
    have k3 : ∀ n, n < 22 → isNum (n : Nat) = false → low (n : Nat) = 0 := by decide +kernel
    have k4 : ∀ n, n < 22 → isNum (n : Nat) = false → high (n : Nat) = 0 := by decide +kernel
    have k5 : ∀ n, n < 22 → isNum (n : Nat) = false → signed (n : Nat) = false := by decide +kernel
    exact ⟨k1 n hn h, k2 n hn h, k3 n hn h, k4 n hn h, k5 n hn h⟩
  · obtain ⟨_, h2, h3, h4, h5⟩ := out_all h0
    exact ⟨h3, h2, h4, h5, by simp [signed, h4]⟩
end Typ
end Go.Proofs.YtpdnfdpoebhjoaaDoor
