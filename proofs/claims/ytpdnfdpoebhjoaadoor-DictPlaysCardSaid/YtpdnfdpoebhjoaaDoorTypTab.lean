/-
  A laid table of structs of one-cell fields, cell by cell; types' own.
-/
import Derived.Test.YtpdnfdpoebhjoaaDoorTypGlob
import Derived.Test.YtpdnfdpoebhjoaaDoorRows
import Derived.LaidSub
import Derived.LaidMore
import Derived.OpenShut
import Derived.ChangeArms
import Derived.ChangeVars
import Derived.LaidLaws
import Derived.LaidHandle
import Derived.RowKitTokens
namespace Go.Proofs.YtpdnfdpoebhjoaaDoor
open Go.RowKit Mem
set_option linter.unusedVariables false

/-- A plain datum as the one cell that it lies in. -/
def toV {H : Type} : DataW H → Value
  | .lit (.int k z) => .int k z
  | .lit (.string l) => .string ⟨l.toArray⟩
  | _ => undef
def cellAt {H : Type} (d : DataW H) (i j : Nat) : Option Value :=
  match d with
  | .agg rows => match rows[i]? with
    | some (.agg fs) => (fs[j]?).map toV
    | _ => none
  | _ => none

section
variable {H : Type} {enc : TypeId × Value → H} {P : Program} {w : World} {base : Nat} {spare : Nat → Bool} {held : Bool}
theorem one_cell {t : TypeId} {fuel : Nat} {cs : List Value} {x : DataW H × List MemPlace} (ht : (∃ k, P.underlying t = some (.int k)) ∨ P.underlying t = some .string)
    (h : DataW.trod enc P w base spare held fuel t cs = some x) : cs = [toV x.1] := by
  rcases ht with ⟨k, ht⟩ | ht
  · obtain ⟨n, rfl, rfl, _⟩ := DataW.trod_int ht h
    rfl
  · obtain ⟨s, rfl, rfl, _⟩ := DataW.trod_string ht h
    simp [toV]
/-- A table of structs of one-cell fields, cell by cell. -/
theorem tab_cells {t e : TypeId} {n m : Nat} {fs : Array Field} {fuel : Nat} {cs : List Value} {d : DataW H} {p : List MemPlace}
    (ht : P.underlying t = some (.array n e)) (hs : P.underlying e = some (.struct fs)) (hce : P.cellsOf e = m)
    (hf : ∀ (i : Nat) (f : Field), fs[i]? = some f → f.offset = i ∧ P.cellsOf f.type = 1 ∧ i < m ∧ ((∃ k, P.underlying f.type = some (.int k)) ∨ P.underlying f.type = some .string))
    (h : DataW.trod enc P w base spare held fuel t cs = some (d, p)) (i j : Nat) (hi : i < n) (f : Field) (hj : fs[j]? = some f) : cs[i * m + j]? = cellAt d i j := by
  obtain ⟨xs, k, _, hx, hl, hxs, hrow⟩ := DataW.trod_array ht h
  have h1 := hrow i hi
  have hix : i < xs.length := by omega
  rw [List.getElem?_eq_getElem hix, hce] at h1
  obtain ⟨ys, k2, _, hy, hl2, hys, hfld⟩ := DataW.trod_struct hs h1
  have h2 := hfld j f hj
  obtain ⟨o1, o2, o3, o4⟩ := hf j f hj
  have hjs : j < ys.length := by rw [hys]; exact (Array.getElem?_eq_some_iff.1 hj).1
  rw [List.getElem?_eq_getElem hjs, o1, o2] at h2
  have h3 := one_cell o4 h2
  have h4 : (((cs.drop (i * m)).take m).drop j).take 1 = [toV ys[j].1] := h3
  have h5 : cs[i * m + j]? = some (toV ys[j].1) := by
    have := congrArg (fun l => l[0]?) h4
    simp only [List.getElem?_cons_zero, List.getElem?_take, List.getElem?_drop] at this
    simpa [o3] using this
  rw [h5]
  have e1 : d = .agg (xs.map (·.1)) := congrArg Prod.fst hx
  have e2 : (xs[i]).1 = .agg (ys.map (·.1)) := congrArg Prod.fst hy
  rw [e1]
  simp [cellAt, hix, e2, hjs]
end

theorem glK : Tryd.prog.globalNamed "wheelhouse/types.kinds" = some 0 := by kernel_rfl
theorem tyK : (Tryd.prog.globals[0]?).map (·.type) = some 103 := by kernel_rfl

theorem kc_ok : ∀ i, i < 22 → ∀ j, j < 5 → cellAt (H := Unit) Rows.laid_wheelhouse_types_kinds i j = some (kcell i j) := by
  intro i hi j hj
  have key : ∀ i, i < 22 → cellAt (H := Unit) Rows.laid_wheelhouse_types_kinds i 0 = some (kcell i 0) ∧ cellAt (H := Unit) Rows.laid_wheelhouse_types_kinds i 1 = some (kcell i 1) ∧ cellAt (H := Unit) Rows.laid_wheelhouse_types_kinds i 2 = some (kcell i 2) ∧
      cellAt (H := Unit) Rows.laid_wheelhouse_types_kinds i 3 = some (kcell i 3) ∧ cellAt (H := Unit) Rows.laid_wheelhouse_types_kinds i 4 = some (kcell i 4) := by
    intro i hi
    rcases (by omega : i = 0 ∨ i = 1 ∨ i = 2 ∨ i = 3 ∨ i = 4 ∨ i = 5 ∨ i = 6 ∨ i = 7 ∨ i = 8 ∨ i = 9 ∨ i = 10 ∨ i = 11 ∨ i = 12 ∨ i = 13 ∨ i = 14 ∨ i = 15 ∨ i = 16 ∨ i = 17 ∨ i = 18 ∨ i = 19 ∨ i = 20 ∨ i = 21) with rfl | rfl | rfl | rfl | rfl | rfl | rfl | rfl | rfl | rfl | rfl | rfl | rfl | rfl | rfl | rfl | rfl | rfl | rfl | rfl | rfl | rfl
    all_goals exact ⟨by kernel_rfl, by kernel_rfl, by kernel_rfl, by kernel_rfl, by kernel_rfl⟩
  obtain ⟨k0, k1, k2, k3, k4⟩ := key i hi
  rcases (by omega : j = 0 ∨ j = 1 ∨ j = 2 ∨ j = 3 ∨ j = 4) with rfl | rfl | rfl | rfl | rfl <;> assumption

theorem flds : ∃ fs : Array Field, Tryd.prog.underlying 93 = some (.struct fs) ∧ fs.size = 5 ∧ ∀ j, j < 5 → (fs[j]?).map (fun f => (f.offset, Tryd.prog.cellsOf f.type, f.type)) = some (j, 1, if j = 0 then 9 else if j < 3 then 3 else 2) := by
  refine ⟨_, Tryd.underlying93, by kernel_rfl, fun j hj => ?_⟩
  rcases (by omega : j = 0 ∨ j = 1 ∨ j = 2 ∨ j = 3 ∨ j = 4) with rfl | rfl | rfl | rfl | rfl <;> kernel_rfl
theorem fld_ok {fs : Array Field} (e : fs.size = 5) (one : ∀ j, j < 5 → (fs[j]?).map (fun f => (f.offset, Tryd.prog.cellsOf f.type, f.type)) = some (j, 1, if j = 0 then 9 else if j < 3 then 3 else 2)) :
    ∀ (i : Nat) (f : Field), fs[i]? = some f → f.offset = i ∧ Tryd.prog.cellsOf f.type = 1 ∧ i < 5 ∧ ((∃ k, Tryd.prog.underlying f.type = some (.int k)) ∨ Tryd.prog.underlying f.type = some .string) := by
  intro i f hf
  have hi : i < 5 := by have := (Array.getElem?_eq_some_iff.1 hf).1; omega
  have h := one i hi
  rw [hf] at h
  simp only [Option.map_some, Option.some.injEq, Prod.mk.injEq] at h
  obtain ⟨h1, h2, h3⟩ := h
  refine ⟨h1, h2, hi, ?_⟩
  rw [h3]
  by_cases h0 : i = 0
  · rw [if_pos h0]; exact .inr Tryd.underlying9
  · rw [if_neg h0]
    by_cases h4 : i < 3
    · rw [if_pos h4]; exact .inl ⟨_, Tryd.underlying3⟩
    · rw [if_neg h4]; exact .inl ⟨_, Tryd.underlying2⟩

end Go.Proofs.YtpdnfdpoebhjoaaDoor
