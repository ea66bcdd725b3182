/-
  The table of abort codes, and texts: plain mathematics. No program is named here.
-/
import Derived.Lib.Hide
namespace Go.Proofs.YtielbmhaidjioaaDoor
namespace Flt

/-- The codes, in the document's order. -/
def codes : List Int := [84082688, 84148224, 84148225, 84148226, 84148227, 84148228, 84148229, 100728832, 100728833, 100728834, 100794368, 100925505, 100925506, 100925507, 100925511, 101056512, 101122064, 101122066, 101122067, 101253137, 101253168, 101253169, 101253170, 134217728, 134217760, 134217761, 134217762, 134217764]
/-- Their families. -/
def fams : List Nat := [1, 1, 1, 1, 1, 1, 1, 2, 2, 2, 2, 3, 3, 3, 3, 5, 3, 3, 3, 2, 4, 4, 4, 5, 5, 5, 5, 5]
/-- What they say. -/
def says : List (List UInt8) := [
  [116, 111, 103, 103, 108, 101, 32, 98, 105, 116, 32, 110, 111, 116, 32, 97, 108, 116, 101, 114, 110, 97, 116, 101, 100],
  [112, 114, 111, 116, 111, 99, 111, 108, 32, 116, 105, 109, 101, 100, 32, 111, 117, 116],
  [117, 110, 107, 110, 111, 119, 110, 32, 99, 111, 109, 109, 97, 110, 100],
  [105, 110, 118, 97, 108, 105, 100, 32, 98, 108, 111, 99, 107, 32, 115, 105, 122, 101],
  [105, 110, 118, 97, 108, 105, 100, 32, 115, 101, 113, 117, 101, 110, 99, 101, 32, 110, 117, 109, 98, 101, 114],
  [115, 117, 109, 32, 101, 114, 114, 111, 114],
  [111, 117, 116, 32, 111, 102, 32, 109, 101, 109, 111, 114, 121],
  [117, 110, 115, 117, 112, 112, 111, 114, 116, 101, 100, 32, 97, 99, 99, 101, 115, 115],
  [119, 114, 105, 116, 101, 32, 111, 110, 108, 121],
  [114, 101, 97, 100, 32, 111, 110, 108, 121],
  [110, 111, 32, 115, 117, 99, 104, 32, 111, 98, 106, 101, 99, 116],
  [99, 97, 110, 32, 110, 111, 116, 32, 98, 101, 32, 109, 97, 112, 112, 101, 100],
  [109, 97, 112, 112, 105, 110, 103, 32, 116, 111, 111, 32, 108, 111, 110, 103],
  [112, 97, 114, 97, 109, 101, 116, 101, 114, 32, 105, 110, 99, 111, 109, 112, 97, 116, 105, 98, 108, 101],
  [105, 110, 116, 101, 114, 110, 97, 108, 32, 105, 110, 99, 111, 109, 112, 97, 116, 105, 98, 105, 108, 105, 116, 121],
  [104, 97, 114, 100, 119, 97, 114, 101, 32, 101, 114, 114, 111, 114],
  [108, 101, 110, 103, 116, 104, 32, 100, 111, 101, 115, 32, 110, 111, 116, 32, 109, 97, 116, 99, 104],
  [116, 111, 111, 32, 108, 111, 110, 103],
  [116, 111, 111, 32, 115, 104, 111, 114, 116],
  [110, 111, 32, 115, 117, 99, 104, 32, 115, 117, 98, 45, 105, 110, 100, 101, 120],
  [118, 97, 108, 117, 101, 32, 111, 117, 116, 32, 111, 102, 32, 114, 97, 110, 103, 101],
  [118, 97, 108, 117, 101, 32, 116, 111, 111, 32, 104, 105, 103, 104],
  [118, 97, 108, 117, 101, 32, 116, 111, 111, 32, 108, 111, 119],
  [103, 101, 110, 101, 114, 97, 108, 32, 101, 114, 114, 111, 114],
  [99, 97, 110, 32, 110, 111, 116, 32, 98, 101, 32, 115, 116, 111, 114, 101, 100],
  [108, 111, 99, 97, 108, 32, 99, 111, 110, 116, 114, 111, 108],
  [100, 101, 118, 105, 99, 101, 32, 115, 116, 97, 116, 101],
  [110, 111, 32, 100, 97, 116, 97]]
/-- A code's row; 28: there is none. -/
def idx (c : Int) : Nat := codes.idxOf c
def fam (c : Int) : Nat := fams.getD (idx c) 0
def saying (c : Int) : List UInt8 := says.getD (idx c) [117, 110, 107, 110, 111, 119, 110]
/-- The text that the document's row has: none of an unknown code. -/
def rowText (c : Int) : List UInt8 := says.getD (idx c) []
def known (c : Int) : Bool := decide (idx c < 28)
/-- What a code counts as. -/
def cnt (c : Int) : Int := if known c then c else 134217728

theorem codes_len : codes.length = 28 := rfl
theorem fams_len : fams.length = 28 := rfl
theorem says_len : says.length = 28 := rfl
theorem idx_le (c : Int) : idx c ≤ 28 := by have := List.idxOf_le_length (a := c) (l := codes); rwa [codes_len] at this
theorem idx_no {c : Int} (h : ∀ j, j < 28 → codes.getD j 0 ≠ c) : idx c = 28 := by
  have : c ∉ codes := by
    intro hc
    obtain ⟨j, hj, e⟩ := List.mem_iff_getElem.1 hc
    exact h j hj (by rw [List.getD_eq_getElem?_getD, List.getElem?_eq_getElem hj]; exact e)
  unfold idx
  rw [List.idxOf_eq_length this, codes_len]
theorem idx_at {c : Int} {k : Nat} (hk : k < 28) (h : codes.getD k 0 = c) : idx c = k := by
  have key : ∀ k, k < 28 → codes.idxOf (codes.getD k 0) = k := by decide +kernel
  unfold idx
  rw [← h]
  exact key k hk
theorem idx_code {c : Int} (h : idx c < 28) : codes.getD (idx c) 0 = c := by
  have h' : codes.idxOf c < codes.length := h
  rw [List.getD_eq_getElem?_getD, List.getElem?_eq_getElem (show idx c < codes.length from h)]
  exact List.getElem_idxOf h'
theorem fam_known (c : Int) : fam c = 0 ↔ known c = false := by
  unfold known fam
  have key : ∀ k, k ≤ 28 → (fams.getD k 0 = 0 ↔ decide (k < 28) = false) := by decide +kernel
  exact key _ (idx_le c)
theorem fam_le (c : Int) : fam c ≤ 5 := by
  unfold fam
  have key : ∀ k, k ≤ 28 → fams.getD k 0 ≤ 5 := by decide +kernel
  exact key _ (idx_le c)
theorem cnt_known (c : Int) : known (cnt c) = true := by
  unfold cnt
  split
  · assumption
  · decide +kernel
theorem cnt_cnt (c : Int) : cnt (cnt c) = cnt c := by
  have := cnt_known c
  unfold cnt at this ⊢
  rw [if_pos this]
theorem known_bd {c : Int} (h : known c = true) : 0 < c ∧ c ≤ 4294967295 := by
  have h' : idx c < 28 := by simpa [known] using h
  have e := idx_code h'
  have key : ∀ k, k < 28 → 0 < codes.getD k 0 ∧ codes.getD k 0 ≤ 4294967295 := by decide +kernel
  have := key _ h'
  rwa [e] at this
theorem cnt_bd (c : Int) : 0 < cnt c ∧ cnt c ≤ 4294967295 := known_bd (cnt_known c)
theorem says_bd (k : Nat) : (says.getD k [117, 110, 107, 110, 111, 119, 110]).length ≤ 30 := by
  by_cases h : k < 28
  · have key : ∀ k, k < 28 → (says.getD k [117, 110, 107, 110, 111, 119, 110]).length ≤ 30 := by decide +kernel
    exact key k h
  · rw [List.getD_eq_getElem?_getD, List.getElem?_eq_none (by rw [says_len]; omega)]
    decide

/-! Digits. -/
def hexDig : List UInt8 := [48, 49, 50, 51, 52, 53, 54, 55, 56, 57, 97, 98, 99, 100, 101, 102]
def dg (n : Nat) : UInt8 := hexDig.getD (n % 16) 0
/-- The lowest i digits, the highest of them first. -/
def hexn : Nat → Nat → List UInt8
  | 0, _ => []
  | i + 1, n => dg (n / 16 ^ i) :: hexn i n
theorem hexn_len (i n : Nat) : (hexn i n).length = i := by
  induction i with
  | zero => rfl
  | succ i ih => simp [hexn, ih]
theorem dg_zero {n : Nat} (h : n = 0) : dg n = 48 := by subst h; rfl
theorem hexn_zeros (n m : Nat) (h : n / 16 ^ m = 0) : ∀ k, hexn (m + k) n = List.replicate k 48 ++ hexn m n := by
  intro k
  induction k with
  | zero => simp
  | succ k ih =>
    have e : n / 16 ^ (m + k) = 0 := by
      rw [Nat.pow_add, ← Nat.div_div_eq_div_mul, h, Nat.zero_div]
    show dg (n / 16 ^ (m + k)) :: hexn (m + k) n = _
    rw [dg_zero e, ih]
    rfl
/-- What a code says. -/
def text (c : Int) : List UInt8 := hexn 8 c.toNat ++ [32] ++ saying c
theorem text_len (c : Int) : (text c).length ≤ 39 := by
  have := says_bd (idx c)
  simp only [text, List.length_append, hexn_len, saying, List.length_cons, List.length_nil]
  omega
/-- The texts of codes, one behind the other. -/
def chainT : List Int → List UInt8
  | [] => []
  | [c] => text (cnt c)
  | c :: d :: r => text (cnt c) ++ [58, 32] ++ chainT (d :: r)
end Flt
end Go.Proofs.YtielbmhaidjioaaDoor
