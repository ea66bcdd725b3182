/-
  From the laid variable (types' table) to what the walks of layer 14 ask; what the steps to its cards share.
-/
import Derived.Test.YtpdnfdpoebhjoaaDoorTypTab
import Derived.Test.YtpdnfdpoebhjoaaDoorLift
import Derived.Test.YtpdnfdpoebhjoaaDoorTie
import Derived.Test.YtpdnfdpoebhjoaaDoorCards
import Derived.ProofKit
import Derived.LaidMore
import Derived.OpenShut
import Derived.Stop.Joined
import Derived.SevenTiedAt
namespace Go.Proofs.YtpdnfdpoebhjoaaDoor
namespace EntLaws
open Go.ChangeShapes Go.WideShapes Go.ChangeAt Go.WideMaps Go.WideElems Go.RowKit Mem

def laidL : List (String × DataW Unit) := [("wheelhouse/types.kinds", Rows.laid_wheelhouse_types_kinds)]
theorem plain {W : World} (h : laidMetH Tryd.prog laidL W) : laidMet Tryd.prog laidL W := h

set_option maxRecDepth 100000 in
theorem glob_of_laid {W : World} (h : laidMetH Tryd.prog laidL W) : TG W := by
  obtain ⟨ps, ⟨g3, t3, cs3, f3, p3, q3, hg3, ht3, hv3, hd3, hq3, e3⟩, hnd, hrows⟩ := plain h
  have hq : q3 = [] := hq3
  subst hq e3
  obtain rfl := Option.some.inj (glK.symm.trans hg3)
  obtain rfl := Option.some.inj (tyK.symm.trans ht3)
  refine ⟨fun i j hi hj => ?_, ⟨_, hv3, ?_⟩⟩
  · have h1 := World.var?_cell hg3 hv3 (i * 5 + j)
    rw [h1, ← kc_ok i hi j hj]
    obtain ⟨fs, k1, k2, k3⟩ := flds
    rw [← Array.getElem?_toList]
    exact tab_cells (m := 5) Tryd.underlying103 k1 (by kernel_rfl) (fld_ok k2 k3) hd3 i j hi fs[j] (Array.getElem?_eq_getElem (by omega))
  · obtain ⟨xs, k, _, _, hl, _, _⟩ := DataW.trod_array Tryd.underlying103 hd3
    have e : Tryd.prog.cellsOf 103 = 110 := by kernel_rfl
    rw [e] at hl
    simpa using hl

theorem own : ownKnob Tryd.prog.godebug = none := by kernel_rfl
theorem laidOut : laidOutB Tryd.prog = true := by kernel_rfl
theorem door_met (os : Os) (args : Array Value) : laidMetH Tryd.prog laidL ((World.doorLaid Tryd.prog 4000 os).forCall (fun _ _ => 0) ⟨#[], args, []⟩).memory :=
  laidMetH_of_parts3 (fuel := 8) (laidMet_of_run' 8 (by kernel_rfl) (by kernel_rfl)) (by kernel_rfl) (by kernel_rfl)
end EntLaws
end Go.Proofs.YtpdnfdpoebhjoaaDoor
