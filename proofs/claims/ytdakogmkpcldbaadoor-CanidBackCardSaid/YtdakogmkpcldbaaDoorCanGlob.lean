/-
  What the package variables of canid hold, and that it stays so.
-/
import Derived.Test.YtdakogmkpcldbaaDoorProg
import Derived.Test.YtdakogmkpcldbaaDoorCanMath
import Derived.Test.YtdakogmkpcldbaaDoorRows
import Derived.LaidSub
import Derived.LaidMore
import Derived.OpenShut
import Derived.ChangeArms
import Derived.ChangeVars
import Derived.LaidLaws
import Derived.LaidHandle
import Derived.RowKitTokens
namespace Go.Proofs.YtdakogmkpcldbaaDoor
open Go.RowKit
set_option linter.unusedVariables false

def rall : Array Value := ((List.range 75).map fun n => .int .i64 (Can.row (n / 5) (n % 5))).toArray
def sall : Array Value := ((List.range 12).map fun n => .int .i64 (Can.span (n / 2) (n % 2))).toArray
structure CG (w : World) : Prop where
  rows : w.var? Tryd.prog "wheelhouse/canid.rows" = some rall
  rest : w.var? Tryd.prog "wheelhouse/canid.restricted" = some sall
theorem glR : Tryd.prog.globalNamed "wheelhouse/canid.rows" = some 0 := by kernel_rfl
theorem tyR : (Tryd.prog.globals[0]?).map (·.type) = some 55 := by kernel_rfl
theorem glS : Tryd.prog.globalNamed "wheelhouse/canid.restricted" = some 1 := by kernel_rfl
theorem tyS : (Tryd.prog.globals[1]?).map (·.type) = some 61 := by kernel_rfl

theorem var_below {P : Program} {w w' : World} {n : String} {B : Nat} {cs : Array Value} (h : w.var? P n = some cs) (hb : Below B w w') (hB : w.heap.size ≤ B) : w'.var? P n = some cs := by
  unfold World.var? at *
  cases hg : P.globalNamed n with
  | none => simp [hg] at h
  | some g =>
    simp only [hg, Option.bind_some] at h ⊢
    have hlt : g < w.heap.size := by
      rcases Nat.lt_or_ge g w.heap.size with h' | h'
      · exact h'
      · simp [Array.getElem?_eq_none h'] at h
    rw [hb.block g (by omega)]
    exact h
theorem CG.below {w w' : World} {B : Nat} (h : CG w) (hb : Below B w w') (hB : w.heap.size ≤ B) : CG w' := ⟨var_below h.rows hb hB, var_below h.rest hb hB⟩
theorem below_drew (w : World) : Below w.heap.size w w.drew := ⟨rfl, rfl, rfl, Nat.le_refl _, fun _ _ => rfl⟩
theorem CG.drew {w : World} (h : CG w) : CG w.drew := h.below (below_drew w) (Nat.le_refl _)
theorem var_whole {w : World} {n : String} {g : Nat} {cs : Array Value} (hg : Tryd.prog.globalNamed n = some g) (hv : w.var? Tryd.prog n = some cs) : ∃ t fr, w.heap[g]? = some (.cells cs t fr) := by
  simp only [World.var?, hg, Option.bind_some] at hv
  split at hv
  · rename_i cs' t fr he
    cases hv
    exact ⟨t, fr, he⟩
  · cases hv
theorem CG.rowsAt {w : World} (h : CG w) : ∃ t fr, w.heap[0]? = some (.cells rall t fr) := var_whole glR h.rows
theorem CG.restAt {w : World} (h : CG w) : ∃ t fr, w.heap[1]? = some (.cells sall t fr) := var_whole glS h.rest

/-- A plain datum as the one cell that it lies in. -/
def toV {H : Type} : DataW H → Value
  | .lit (.int k z) => .int k z
  | .lit (.string l) => .string ⟨l.toArray⟩
  | _ => undef
def cellAt {H : Type} (d : DataW H) (i j : Nat) : Option Value :=
  match d with
  | .agg rows => match rows[i]? with
    | some (.agg fs) => (fs[j]?).map toV
    | _ => none
  | _ => none
section
variable {H : Type} {enc : TypeId × Value → H} {P : Program} {w : World} {base : Nat} {spare : Nat → Bool} {held : Bool}
/-- A table of structs of numbers, cell by cell. -/
theorem tab_cells {t e : TypeId} {n m : Nat} {fs : Array Field} {fuel : Nat} {cs : List Value} {d : DataW H} {p : List MemPlace}
    (ht : P.underlying t = some (.array n e)) (hs : P.underlying e = some (.struct fs)) (hce : P.cellsOf e = m)
    (hf : ∀ (i : Nat) (f : Field), fs[i]? = some f → f.offset = i ∧ P.cellsOf f.type = 1 ∧ i < m ∧ (∃ k, P.underlying f.type = some (.int k)))
    (h : DataW.trod enc P w base spare held fuel t cs = some (d, p)) (i j : Nat) (hi : i < n) (f : Field) (hj : fs[j]? = some f) : cs[i * m + j]? = cellAt d i j := by
  obtain ⟨xs, k, _, hx, hl, hxs, hrow⟩ := DataW.trod_array ht h
  have h1 := hrow i hi
  have hix : i < xs.length := by omega
  rw [List.getElem?_eq_getElem hix, hce] at h1
  obtain ⟨ys, k2, _, hy, hl2, hys, hfld⟩ := DataW.trod_struct hs h1
  have h2 := hfld j f hj
  obtain ⟨o1, o2, o3, k3, o4⟩ := hf j f hj
  have hjs : j < ys.length := by rw [hys]; exact (Array.getElem?_eq_some_iff.1 hj).1
  rw [List.getElem?_eq_getElem hjs, o1, o2] at h2
  have h4 : (((cs.drop (i * m)).take m).drop j).take 1 = [toV ys[j].1] := by
    obtain ⟨n', e1, e2, _⟩ := DataW.trod_int o4 h2
    rw [e1, e2]
    rfl
  have h5 : cs[i * m + j]? = some (toV ys[j].1) := by
    have := congrArg (fun l => l[0]?) h4
    simp only [List.getElem?_cons_zero, List.getElem?_take, List.getElem?_drop] at this
    simpa [o3] using this
  rw [h5]
  have e1 : d = .agg (xs.map (·.1)) := congrArg Prod.fst hx
  have e2 : (xs[i]).1 = .agg (ys.map (·.1)) := congrArg Prod.fst hy
  rw [e1]
  simp [cellAt, hix, e2, hjs]
end

def laidL : List (String × DataW Unit) := [("wheelhouse/canid.rows", Rows.laid_wheelhouse_canid_rows), ("wheelhouse/canid.restricted", Rows.laid_wheelhouse_canid_restricted)]
theorem plain {W : World} (h : laidMetH Tryd.prog laidL W) : laidMet Tryd.prog laidL W := h
theorem rc_ok : ∀ i, i < 15 → ∀ j, j < 5 → cellAt (H := Unit) Rows.laid_wheelhouse_canid_rows i j = some (.int .i64 (Can.row i j)) := by
  intro i hi j hj
  have key : ∀ i, i < 15 → cellAt (H := Unit) Rows.laid_wheelhouse_canid_rows i 0 = some (.int .i64 (Can.row i 0)) ∧ cellAt (H := Unit) Rows.laid_wheelhouse_canid_rows i 1 = some (.int .i64 (Can.row i 1)) ∧ cellAt (H := Unit) Rows.laid_wheelhouse_canid_rows i 2 = some (.int .i64 (Can.row i 2)) ∧
      cellAt (H := Unit) Rows.laid_wheelhouse_canid_rows i 3 = some (.int .i64 (Can.row i 3)) ∧ cellAt (H := Unit) Rows.laid_wheelhouse_canid_rows i 4 = some (.int .i64 (Can.row i 4)) := by
    refine Can.fif ⟨?_, ?_, ?_, ?_, ?_, ?_, ?_, ?_, ?_, ?_, ?_, ?_, ?_, ?_, ?_⟩
    all_goals exact ⟨by kernel_rfl, by kernel_rfl, by kernel_rfl, by kernel_rfl, by kernel_rfl⟩
  obtain ⟨k0, k1, k2, k3, k4⟩ := key i hi
  rcases (by omega : j = 0 ∨ j = 1 ∨ j = 2 ∨ j = 3 ∨ j = 4) with rfl | rfl | rfl | rfl | rfl <;> assumption
theorem sc_ok : ∀ i, i < 6 → ∀ j, j < 2 → cellAt (H := Unit) Rows.laid_wheelhouse_canid_restricted i j = some (.int .i64 (Can.span i j)) := by
  intro i hi j hj
  rcases (by omega : i = 0 ∨ i = 1 ∨ i = 2 ∨ i = 3 ∨ i = 4 ∨ i = 5) with rfl | rfl | rfl | rfl | rfl | rfl
  all_goals rcases (by omega : j = 0 ∨ j = 1) with rfl | rfl <;> kernel_rfl
theorem fldsR : ∃ fs : Array Field, Tryd.prog.underlying 54 = some (.struct fs) ∧ fs.size = 5 ∧ ∀ j, j < 5 → (fs[j]?).map (fun f => (f.offset, Tryd.prog.cellsOf f.type, f.type)) = some (j, 1, 3) := by
  refine ⟨_, Tryd.underlying54, by kernel_rfl, fun j hj => ?_⟩
  rcases (by omega : j = 0 ∨ j = 1 ∨ j = 2 ∨ j = 3 ∨ j = 4) with rfl | rfl | rfl | rfl | rfl <;> kernel_rfl
theorem fldsS : ∃ fs : Array Field, Tryd.prog.underlying 60 = some (.struct fs) ∧ fs.size = 2 ∧ ∀ j, j < 2 → (fs[j]?).map (fun f => (f.offset, Tryd.prog.cellsOf f.type, f.type)) = some (j, 1, 3) := by
  refine ⟨_, Tryd.underlying60, by kernel_rfl, fun j hj => ?_⟩
  rcases (by omega : j = 0 ∨ j = 1) with rfl | rfl <;> kernel_rfl
theorem fld_ok {m : Nat} {fs : Array Field} (e : fs.size = m) (one : ∀ j, j < m → (fs[j]?).map (fun f => (f.offset, Tryd.prog.cellsOf f.type, f.type)) = some (j, 1, 3)) :
    ∀ (i : Nat) (f : Field), fs[i]? = some f → f.offset = i ∧ Tryd.prog.cellsOf f.type = 1 ∧ i < m ∧ (∃ k, Tryd.prog.underlying f.type = some (.int k)) := by
  intro i f hf
  have hi : i < m := by have := (Array.getElem?_eq_some_iff.1 hf).1; omega
  have h := one i hi
  rw [hf] at h
  simp only [Option.map_some, Option.some.injEq, Prod.mk.injEq] at h
  obtain ⟨h1, h2, h3⟩ := h
  exact ⟨h1, h2, hi, by rw [h3]; exact ⟨_, Tryd.underlying3⟩⟩

set_option maxRecDepth 100000 in
theorem glob_of_laid {W : World} (h : laidMetH Tryd.prog laidL W) : CG W := by
  obtain ⟨ps, ⟨g1, t1, cs1, f1, p1, q1, hg1, ht1, hv1, hd1, ⟨g2, t2, cs2, f2, p2, q2, hg2, ht2, hv2, hd2, hq2, e2⟩, e1⟩, hnd, hrows⟩ := plain h
  have hq : q2 = [] := hq2
  subst hq e2 e1
  obtain rfl := Option.some.inj (glR.symm.trans hg1)
  obtain rfl := Option.some.inj (glS.symm.trans hg2)
  obtain rfl := Option.some.inj (tyR.symm.trans ht1)
  obtain rfl := Option.some.inj (tyS.symm.trans ht2)
  refine ⟨?_, ?_⟩
  · rw [hv1]
    congr 1
    obtain ⟨fs, k1, k2, k3⟩ := fldsR
    obtain ⟨xs, k, _, _, hl, _, _⟩ := DataW.trod_array Tryd.underlying55 hd1
    have e : Tryd.prog.cellsOf 55 = 75 := by kernel_rfl
    have hs : cs1.size = 75 := by rw [e] at hl; simpa using hl
    refine Array.ext (by rw [hs]; simp [rall]) fun i h1 h2 => ?_
    have h5 := tab_cells (m := 5) Tryd.underlying55 k1 (by kernel_rfl) (fld_ok k2 k3) hd1 (i / 5) (i % 5) (by omega) fs[i % 5] (Array.getElem?_eq_getElem (by omega))
    rw [rc_ok _ (by omega) _ (by omega), show i / 5 * 5 + i % 5 = i by omega, Array.getElem?_toList, Array.getElem?_eq_getElem h1] at h5
    rw [Option.some.inj h5]
    simp [rall]
  · rw [hv2]
    congr 1
    obtain ⟨fs, k1, k2, k3⟩ := fldsS
    obtain ⟨xs, k, _, _, hl, _, _⟩ := DataW.trod_array Tryd.underlying61 hd2
    have e : Tryd.prog.cellsOf 61 = 12 := by kernel_rfl
    have hs : cs2.size = 12 := by rw [e] at hl; simpa using hl
    refine Array.ext (by rw [hs]; simp [sall]) fun i h1 h2 => ?_
    have h5 := tab_cells (m := 2) Tryd.underlying61 k1 (by kernel_rfl) (fld_ok k2 k3) hd2 (i / 2) (i % 2) (by omega) fs[i % 2] (Array.getElem?_eq_getElem (by omega))
    rw [sc_ok _ (by omega) _ (by omega), show i / 2 * 2 + i % 2 = i by omega, Array.getElem?_toList, Array.getElem?_eq_getElem h1] at h5
    rw [Option.some.inj h5]
    simp [sall]
end Go.Proofs.YtdakogmkpcldbaaDoor
