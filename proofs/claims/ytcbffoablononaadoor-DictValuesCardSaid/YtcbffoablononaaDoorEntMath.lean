/-
  An entry as a value; what package entry and the document say of it, as functions.
-/
import Derived.Test.YtcbffoablononaaDoorTypCheck
namespace Go.Proofs.YtcbffoablononaaDoor
namespace Ent
open Go.RowKit Mem
set_option linter.unusedVariables false

/-- A letter; a letter, a digit or '_'. -/
def letB (x : Int) : Bool := decide (97 ≤ x) && decide (x ≤ 122)
def digB (x : Int) : Bool := decide (48 ≤ x) && decide (x ≤ 57)
def chB (x : Int) : Bool := letB x || digB x || x == 95
def nameB (l : List UInt8) : Bool := decide (1 ≤ l.length ∧ l.length ≤ 16) && letB (byt l 0) && (List.range l.length).all fun j => chB (byt l j)
theorem name_len {l : List UInt8} (h : ¬ (1 ≤ l.length ∧ l.length ≤ 16)) : nameB l = false := by unfold nameB; rw [decide_eq_false h]; rfl
theorem name_first {l : List UInt8} (h : letB (byt l 0) = false) : nameB l = false := by unfold nameB; rw [h]; simp
theorem name_no {l : List UInt8} {j : Nat} (hj : j < l.length) (h : chB (byt l j) = false) : nameB l = false := by
  unfold nameB
  have : ((List.range l.length).all fun j => chB (byt l j)) = false := by
    cases hp : (List.range l.length).all fun j => chB (byt l j) with
    | false => rfl
    | true =>
      exfalso
      have := List.all_eq_true.1 hp j (List.mem_range.2 hj)
      rw [h] at this
      cases this
  rw [this]
  simp
theorem name_yes {l : List UInt8} (h0 : 1 ≤ l.length ∧ l.length ≤ 16) (h1 : letB (byt l 0) = true) (h2 : ∀ j, j < l.length → chB (byt l j) = true) : nameB l = true := by
  unfold nameB
  rw [decide_eq_true h0, h1]
  simpa using h2

/-- Why bytes are no value: of a type, a greatest length, limits. -/
def byd (t lo hi : Int) (bs : List UInt8) : Int := if (decA t bs).2 ≠ 0 then 0 else if (decA t bs).1 < lo then 101253170 else if hi < (decA t bs).1 then 101253169 else 0
def valN (t mx lo hi : Int) (bs : List UInt8) : Int :=
  if chkA t mx bs = 15 then 100925511 else if chkA t mx bs = 2 then 101122067 else if chkA t mx bs = 3 then 101122066 else if chkA t mx bs = 9 ∨ chkA t mx bs = 4 then 101253168 else byd t lo hi bs
theorem byd_bd (t lo hi : Int) (bs : List UInt8) : 0 ≤ byd t lo hi bs ∧ byd t lo hi bs ≤ 4294967295 := by unfold byd; repeat' split <;> omega
theorem val_bd (t mx lo hi : Int) (bs : List UInt8) : 0 ≤ valN t mx lo hi bs ∧ valN t mx lo hi bs ≤ 4294967295 := by
  have := byd_bd t lo hi bs
  unfold valN
  repeat' split <;> omega

/-- What an error of Decode can be. -/
theorem dec_codes (t : Int) (bs : List UInt8) : (decA t bs).2 = 15 ∧ Typ.isNum t = false ∧ (decA t bs).1 = 0 ∨ Typ.isNum t = true ∧ ((decA t bs).2 = 2 ∨ (decA t bs).2 = 3 ∨ (decA t bs).2 = 9 ∨ (decA t bs).2 = 0) := by
  unfold decA
  cases h : Typ.isNum t with
  | false => left; simp
  | true =>
    right
    refine ⟨rfl, ?_⟩
    rw [if_neg (by decide)]
    split
    · simp
    · split
      · simp
      · split
        · simp
        · split <;> simp
/-- What an error of Check can be, of a type that is no number's. -/
theorem chk_codes (t mx : Int) (bs : List UInt8) (hk : Typ.known t = true) (hi : Typ.isNum t = false) : chkA t mx bs = 3 ∨ chkA t mx bs = 4 ∨ chkA t mx bs = 0 := by
  unfold chkA
  rw [if_neg (by rw [hk]; decide), if_neg (by rw [hi]; decide)]
  split
  · simp
  · split <;> simp
theorem chk_num (t mx : Int) (bs : List UInt8) (hk : Typ.known t = true) (hi : Typ.isNum t = true) : chkA t mx bs = (decA t bs).2 := by
  unfold chkA
  rw [if_neg (by rw [hk]; decide), if_pos hi]
theorem chk_none (t mx : Int) (bs : List UInt8) (hk : Typ.known t = false) : chkA t mx bs = 15 := by
  unfold chkA
  rw [if_pos hk]
theorem num_known {t : Int} (h : Typ.isNum t = true) : Typ.known t = true := (Typ.num_facts t h).2.1
/-- Value, by its ways: as the document takes them. -/
theorem val_ways (t mx lo hi : Int) (bs : List UInt8) :
    (Typ.known t = false ∧ valN t mx lo hi bs = 100925511) ∨
    (Typ.known t = true ∧ Typ.isNum t = true ∧ (decA t bs).2 = 2 ∧ valN t mx lo hi bs = 101122067) ∨
    (Typ.known t = true ∧ Typ.isNum t = true ∧ (decA t bs).2 = 3 ∧ valN t mx lo hi bs = 101122066) ∨
    (Typ.known t = true ∧ Typ.isNum t = true ∧ (decA t bs).2 = 9 ∧ valN t mx lo hi bs = 101253168) ∨
    (Typ.known t = true ∧ Typ.isNum t = true ∧ (decA t bs).2 = 0 ∧ (decA t bs).1 < lo ∧ valN t mx lo hi bs = 101253170) ∨
    (Typ.known t = true ∧ Typ.isNum t = true ∧ (decA t bs).2 = 0 ∧ ¬ (decA t bs).1 < lo ∧ hi < (decA t bs).1 ∧ valN t mx lo hi bs = 101253169) ∨
    (Typ.known t = true ∧ Typ.isNum t = true ∧ (decA t bs).2 = 0 ∧ ¬ (decA t bs).1 < lo ∧ ¬ hi < (decA t bs).1 ∧ valN t mx lo hi bs = 0) ∨
    (Typ.known t = true ∧ Typ.isNum t = false ∧ chkA t mx bs = 3 ∧ valN t mx lo hi bs = 101122066) ∨
    (Typ.known t = true ∧ Typ.isNum t = false ∧ chkA t mx bs = 4 ∧ valN t mx lo hi bs = 101253168) ∨
    (Typ.known t = true ∧ Typ.isNum t = false ∧ chkA t mx bs = 0 ∧ valN t mx lo hi bs = 0) := by
  have hc := dec_codes t bs
  cases hk : Typ.known t with
  | false =>
    left
    have := chk_none t mx bs hk
    unfold valN
    simp [this]
  | true =>
    right
    cases hi' : Typ.isNum t with
    | true =>
      have h0 := chk_num t mx bs hk hi'
      unfold valN byd
      rw [h0]
      rw [hi'] at hc
      rcases hc with ⟨_, h, _⟩ | ⟨_, h | h | h | h⟩
      · cases h
      · left; simp [h]
      · right; left; simp [h]
      · right; right; left; simp [h]
      · right; right; right
        rcases (by omega : (decA t bs).1 < lo ∨ (¬ (decA t bs).1 < lo ∧ hi < (decA t bs).1) ∨ (¬ (decA t bs).1 < lo ∧ ¬ hi < (decA t bs).1)) with h1 | ⟨h1, h2⟩ | ⟨h1, h2⟩
        · left; simp [h, h1]
        · right; left; simp only [h, h1, h2]; simp
        · right; right; left; simp only [h, h1, h2]; simp
    | false =>
      right; right; right; right; right; right
      have h0 := chk_codes t mx bs hk hi'
      rw [hi'] at hc
      have h15 : (decA t bs).2 = 15 := by
        rcases hc with ⟨h, _, _⟩ | ⟨h, _⟩
        · exact h
        · cases h
      unfold valN byd
      rcases h0 with h | h | h
      · left; simp [h]
      · right; left; simp [h]
      · right; right; simp [h, h15]

/-- What is wrong of an entry. -/
def placeB (ix sub : Int) : Bool := decide (1 ≤ ix) && decide (ix ≤ 65535) && decide (0 ≤ sub) && decide (sub ≤ 255)
def allowB (ac : Int) (mp st : Bool) : Bool := if ac = 1 then !mp && !st else if ac = 2 then !st else decide (ac = 3 ∨ ac = 4)
def boundB (t mx lo hi : Int) (mp : Bool) : Bool :=
  if Typ.isNum t = true then decide (mx = 0 ∧ Typ.low t ≤ lo ∧ lo ≤ hi ∧ hi ≤ Typ.high t) else decide (lo = 0 ∧ hi = 0 ∧ 1 ≤ mx ∧ mx ≤ 256) && !mp
def rightN (ix sub : Int) (nm : List UInt8) (t ac : Int) (mp st : Bool) (mx lo hi : Int) (d : List UInt8) : Int :=
  if placeB ix sub = false then 9 else if nameB nm = false then 14 else if Typ.known t = false then 15 else if allowB ac mp st = false ∨ boundB t mx lo hi mp = false then 1 else if valN t mx lo hi d ≠ 0 then 4 else 0
def readN (ac : Int) : Int := if ac = 3 then 100728833 else 0
def writeN (ac : Int) : Int := if ac = 1 ∨ ac = 2 then 100728834 else 0
def groupN (ix : Int) : Int := if ix < 4096 ∨ 40960 ≤ ix then 1 else if ix < 8192 then 2 else if ix < 24576 then 4 else 3
def befB (i s j u : Int) : Bool := decide (i < j) || (i == j && decide (s < u))
end Ent
end Go.Proofs.YtcbffoablononaaDoor
