/-
  What the package variables of types and strconv hold, and that it stays so.
-/
import Derived.Test.YtpdnfdpoebhjoaaDoorProg
import Derived.Test.YtpdnfdpoebhjoaaDoorTypMath
import Derived.Test.YtpdnfdpoebhjoaaDoorLift
import Derived.Lib.LaidTab
import Derived.FnData
import Derived.Lib.ItoaNum
namespace Go.Proofs.YtpdnfdpoebhjoaaDoor
open Go.RowKit Mem
set_option linter.unusedVariables false

/-- One cell of the table: column j of row i. -/
def kcell (i j : Nat) : Value :=
  match j with
  | 0 => .string ⟨(Typ.names.getD i []).toArray⟩
  | 1 => .int .i64 (Typ.sizes.getD i 0)
  | 2 => .int .i64 (Typ.bitss.getD i 0)
  | 3 => .int .i64 (Typ.lows.getD i 0)
  | _ => .int .i64 (Typ.highs.getD i 0)
structure TG (w : World) : Prop where
  kinds : ∀ i j, i < 22 → j < 5 → w.cell? ⟨0, i * 5 + j, none⟩ = some (kcell i j)
  row : ∃ cs, w.var? Tryd.prog "wheelhouse/types.kinds" = some cs ∧ cs.size = 110

theorem below_cell {w w' : World} {B : Nat} {p : Addr} {v : Value} (hb : Below B w w') (hB : w.heap.size ≤ B) (h : w.cell? p = some v) : w'.cell? p = some v := by
  have hlt : p.block < w.heap.size := by
    rcases Nat.lt_or_ge p.block w.heap.size with h' | h'
    · exact h'
    · simp [World.cell?, Array.getElem?_eq_none h'] at h
  rw [hb.cell (p := p) (by omega)]
  exact h
theorem var_below {P : Program} {w w' : World} {n : String} {B : Nat} {cs : Array Value} (h : w.var? P n = some cs) (hb : Below B w w') (hB : w.heap.size ≤ B) : w'.var? P n = some cs := by
  unfold World.var? at *
  cases hg : P.globalNamed n with
  | none => simp [hg] at h
  | some g =>
    simp only [hg, Option.bind_some] at h ⊢
    have hlt : g < w.heap.size := by
      rcases Nat.lt_or_ge g w.heap.size with h' | h'
      · exact h'
      · simp [Array.getElem?_eq_none h'] at h
    rw [hb.block g (by omega)]
    exact h
theorem TG.below {w w' : World} {B : Nat} (h : TG w) (hb : Below B w w') (hB : w.heap.size ≤ B) : TG w' where
  kinds i j hi hj := below_cell hb hB (h.kinds i j hi hj)
  row := by obtain ⟨cs, h1, h2⟩ := h.row; exact ⟨cs, var_below h1 hb hB, h2⟩
theorem below_drew (w : World) : Below w.heap.size w w.drew := ⟨rfl, rfl, rfl, Nat.le_refl _, fun _ _ => rfl⟩
theorem TG.drew {w : World} (h : TG w) : TG w.drew := h.below (below_drew w) (Nat.le_refl _)
theorem TG.at_ {w : World} (h : TG w) {t : Int} (h0 : 0 ≤ t) (h1 : t < 22) : ∀ j, j < 5 → w.cell? ⟨0, t.toNat * 5 + j, none⟩ = some (kcell (Typ.idx t) j) := fun j hj => by
  rw [Typ.idx_in h0 h1]
  exact h.kinds _ _ (by omega) hj
end Go.Proofs.YtpdnfdpoebhjoaaDoor
