/-
  Records as values: what is wrong of one, its bytes, what is read at a place of any bytes. No program is named here.
-/
import Derived.Test.YtkkbjngjjeajoaaSumMath
namespace Go.Proofs.Ytkkbjngjjeajoaa
namespace Rec
open Go.RowKit Mem

/-- What is wrong of a record: its kind, its number, how many bytes its data has. -/
def err (k n : Int) (l : Nat) : Int := if (k = 1 ∨ k = 2 ∧ l = 0) ∧ n ≠ 0 then (if 960 < l then 3 else 0) else 1
/-- What stands ahead of the data. -/
def head (k n : Int) (l : Nat) : List UInt8 := Oct.bytes 87 1 ++ Oct.bytes k 1 ++ Oct.bytes n 4 ++ Oct.bytes (l : Int) 2
def build (k n : Int) (d : List UInt8) : List UInt8 := Sum.seal_ (head k n d.length ++ d) ++ Oct.bytes 0 1
def buildA (k n : Int) (d : List UInt8) : List UInt8 × Int := if err k n d.length = 0 then (build k n d, 0) else ([], err k n d.length)
/-- What is read: a record, the place behind it, an error. -/
structure Out where
  k : Int
  n : Int
  d : List UInt8
  to : Int
  e : Int
def none_ (e : Int) : Out := ⟨0, 0, [], 0, e⟩
def kindAt (bs : List UInt8) (a : Nat) : Int := Oct.num bs (a + 1) 1
def numAt (bs : List UInt8) (a : Nat) : Int := Oct.num bs (a + 2) 4
def lenAt (bs : List UInt8) (a : Nat) : Nat := (Oct.num bs (a + 6) 2).toNat
def parseA (bs : List UInt8) (at_ : Int) : Out :=
  if at_ < 0 ∨ (bs.length : Int) < at_ then none_ 1
  else if (bs.length : Int) < at_ + 13 then none_ 2
  else if Oct.num bs at_.toNat 1 ≠ 87 ∨ err (kindAt bs at_.toNat) (numAt bs at_.toNat) (lenAt bs at_.toNat) ≠ 0 then none_ 4
  else if (bs.length : Int) < at_ + (13 + lenAt bs at_.toNat : Nat) then none_ 2
  else if Oct.num bs (at_.toNat + 8 + lenAt bs at_.toNat) 4 ≠ (Sum.on 0 ((bs.drop at_.toNat).take (8 + lenAt bs at_.toNat)) : Nat) then none_ 5
  else if Oct.num bs (at_.toNat + 12 + lenAt bs at_.toNat) 1 ≠ 0 then none_ 8
  else ⟨kindAt bs at_.toNat, numAt bs at_.toNat, (bs.drop (at_.toNat + 8)).take (lenAt bs at_.toNat), at_ + (13 + lenAt bs at_.toNat : Nat), 0⟩

theorem err_ok {k n : Int} {l : Nat} (h : err k n l = 0) : (k = 1 ∨ k = 2) ∧ n ≠ 0 ∧ l ≤ 960 := by
  unfold err at h
  split at h
  · split at h
    · omega
    · omega
  · omega
theorem head_length (k n : Int) (l : Nat) : (head k n l).length = 8 := by simp [head, Oct.bytes_length]
theorem build_length (k n : Int) (d : List UInt8) : (build k n d).length = d.length + 13 := by
  simp [build, Sum.seal_length, head_length, Oct.bytes_length]
  omega
theorem parse_1 {bs : List UInt8} {a : Int} (h : a < 0 ∨ (bs.length : Int) < a) : parseA bs a = none_ 1 := by unfold parseA; rw [if_pos h]
theorem parse_2 {bs : List UInt8} {a : Nat} (h : a ≤ bs.length) (h2 : bs.length < a + 13) : parseA bs a = none_ 2 := by
  unfold parseA
  rw [if_neg (by omega), if_pos (by omega)]
theorem parse_at {bs : List UInt8} {a : Nat} (h : a + 13 ≤ bs.length) : parseA bs a = if Oct.num bs a 1 ≠ 87 ∨ err (kindAt bs a) (numAt bs a) (lenAt bs a) ≠ 0 then none_ 4
    else if bs.length < a + 13 + lenAt bs a then none_ 2
    else if Oct.num bs (a + 8 + lenAt bs a) 4 ≠ (Sum.on 0 ((bs.drop a).take (8 + lenAt bs a)) : Nat) then none_ 5
    else if Oct.num bs (a + 12 + lenAt bs a) 1 ≠ 0 then none_ 8
    else ⟨kindAt bs a, numAt bs a, (bs.drop (a + 8)).take (lenAt bs a), (a + (13 + lenAt bs a) : Nat), 0⟩ := by
  unfold parseA
  rw [if_neg (by omega), if_neg (by omega)]
  simp only [Int.toNat_natCast]
  have e : ((bs.length : Int) < (a : Int) + ((13 + lenAt bs a : Nat) : Int)) ↔ bs.length < a + 13 + lenAt bs a := by omega
  simp only [e]
  rw [show (a : Int) + ((13 + lenAt bs a : Nat) : Int) = ((a + (13 + lenAt bs a) : Nat) : Int) by omega]
theorem num_255 (bs : List UInt8) (a : Nat) : 0 ≤ Oct.num bs a 1 ∧ Oct.num bs a 1 ≤ 255 := by
  have := Oct.num_bd bs a 1
  rw [show 8 * 1 = 8 from rfl] at this
  omega
theorem num_16 (bs : List UInt8) (a : Nat) : 0 ≤ Oct.num bs a 2 ∧ Oct.num bs a 2 ≤ 65535 := by
  have := Oct.num_bd bs a 2
  rw [show 8 * 2 = 16 from rfl] at this
  omega
theorem num_32 (bs : List UInt8) (a : Nat) : 0 ≤ Oct.num bs a 4 ∧ Oct.num bs a 4 ≤ 4294967295 := by
  have := Oct.num_bd bs a 4
  rw [show 8 * 4 = 32 from rfl] at this
  omega
theorem len_at (bs : List UInt8) (a : Nat) : Oct.num bs (a + 6) 2 = (lenAt bs a : Int) := by
  have := num_16 bs (a + 6)
  unfold lenAt
  omega
theorem byt_drop (bs : List UInt8) (a i : Nat) : byt (bs.drop a) i = byt bs (a + i) := by
  simp [byt, List.getD_eq_getElem?_getD, List.getElem?_drop]
theorem num_drop (bs : List UInt8) (a i k : Nat) : Oct.num (bs.drop a) i k = Oct.num bs (a + i) k := by
  induction k with
  | zero => rfl
  | succ k ih => simp only [Oct.num, ih, byt_drop, Nat.add_assoc]
theorem num_one (bs : List UInt8) (a : Nat) : Oct.num bs a 1 = byt bs a := by
  simp [Oct.num]
theorem open_at {bs : List UInt8} {a L : Nat} (h : a + 13 + L ≤ bs.length) : Sum.openA ((bs.drop a).take (L + 12)) =
    if Oct.num bs (a + 8 + L) 4 = ((Sum.on 0 ((bs.drop a).take (8 + L)) : Nat) : Int) then ((bs.drop a).take (8 + L), 0) else ([], 5) := by
  have hl : ((bs.drop a).take (L + 12)).length = L + 12 := by simp; omega
  unfold Sum.openA
  rw [if_neg (by omega), hl, show L + 12 - 4 = 8 + L by omega, List.take_take, show min (8 + L) (L + 12) = 8 + L by omega, List.drop_take, List.drop_drop, Sum.num_val bs (a + 8 + L) 4 (by omega),
    show L + 12 - (8 + L) = 4 by omega, show a + (8 + L) = a + 8 + L by omega]
  by_cases hq : Sum.val ((bs.drop (a + 8 + L)).take 4) = Sum.on 0 ((bs.drop a).take (8 + L))
  · rw [if_pos hq, if_pos (by rw [hq])]
  · rw [if_neg hq, if_neg (by omega)]
end Rec
end Go.Proofs.Ytkkbjngjjeajoaa
