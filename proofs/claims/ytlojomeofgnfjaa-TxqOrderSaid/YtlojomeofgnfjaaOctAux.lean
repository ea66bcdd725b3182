/-
  What the helpers of the statements do: Lent (bytes with a mark behind them), Kept (are they as they were?), Spoil (writes over bytes, and behind them).
-/
import Derived.Test.YtlojomeofgnfjaaProg
import Derived.Test.YtlojomeofgnfjaaOctLay
namespace Go.Proofs.Ytlojomeofgnfjaa
open Go.RowKit Mem
set_option linter.unusedVariables false

/-- Bytes that are lent: the slice reads bs, and a byte 77 stands behind them in the same block. -/
def LentAt (w : World) (base : Nat) (t : TypeId) (g cap : Nat) (bs : List UInt8) : Prop :=
  Own w base t (.slice (some ⟨g, 0, none⟩) (bs.length + 1) cap) (bs ++ [77]) ∧ bs.length + 1 ≤ cap ∧ cap ≤ maxLen ∧ base ≤ g ∧ g < w.heap.size
def LentEnds (t : TypeId) (w : World) (bs : List UInt8) (e : Ending) (w' : World) : Prop :=
  ∃ g cap, e = .returned (.slice (some ⟨g, 0, none⟩) bs.length cap) ∧ LentAt w' w.heap.size t g cap bs ∧ Below w.heap.size w w'

theorem LentAt.rd {w : World} {base : Nat} {t : TypeId} {g cap : Nat} {bs : List UInt8} (h : LentAt w base t g cap bs) : Rd w w.heap.size (some ⟨g, 0, none⟩) bs := by
  refine .inr ⟨g, 0, rfl, h.2.2.2.2, fun j hj => ?_⟩
  have h1 := h.1.cell (by simp) (j := j) (by simp; omega)
  rw [Nat.zero_add, h1]
  simp [byt, hj, List.getElem?_append_left]
theorem LentAt.below {w w' : World} {base : Nat} {t : TypeId} {g cap : Nat} {bs : List UInt8} (h : LentAt w base t g cap bs) {B : Nat} (hb : Below B w w') (hB : w.heap.size ≤ B) : LentAt w' base t g cap bs :=
  ⟨h.1.below hb hB, h.2.1, h.2.2.1, h.2.2.2.1, Nat.lt_of_lt_of_le h.2.2.2.2 hb.size⟩

theorem LentAt.keep {w w' : World} {base : Nat} {t : TypeId} {g cap : Nat} {bs : List UInt8} (h : LentAt w base t g cap bs) {B : Nat} (hb : Below B w w') (hg : g < B) : LentAt w' base t g cap bs :=
  ⟨h.1.kept_block (hb.block g hg), h.2.1, h.2.2.1, h.2.2.2.1, Nat.lt_of_lt_of_le h.2.2.2.2 hb.size⟩

end Go.Proofs.Ytlojomeofgnfjaa
