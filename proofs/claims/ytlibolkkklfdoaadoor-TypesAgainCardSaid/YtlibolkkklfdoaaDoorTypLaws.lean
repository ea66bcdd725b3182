/-
  What the steps from the walks of layer 5 to the given cards share.
-/
import Derived.Test.YtlibolkkklfdoaaDoorTypLaid
import Derived.Test.YtlibolkkklfdoaaDoorLift
import Derived.Test.YtlibolkkklfdoaaDoorTie
import Derived.Test.YtlibolkkklfdoaaDoorCards
import Derived.ProofKit
import Derived.LaidMore
import Derived.OpenShut
import Derived.Stop.Joined
import Derived.SevenTiedAt
namespace Go.Proofs.YtlibolkkklfdoaaDoor
namespace TypLaws
open Go.ChangeShapes Go.WideShapes Go.ChangeAt Go.WideMaps Go.WideElems Go.RowKit Mem

theorem own : ownKnob Tryd.prog.godebug = none := by kernel_rfl
theorem laidOut : laidOutB Tryd.prog = true := by kernel_rfl
theorem door_met (os : Os) (args : Array Value) : laidMetH Tryd.prog laidL ((World.doorLaid Tryd.prog 4000 os).forCall (fun _ _ => 0) ⟨#[], args, []⟩).memory :=
  laidMetH_of_parts3 (fuel := 8) (laidMet_of_run' 8 (by kernel_rfl) (by kernel_rfl)) (by kernel_rfl) (by kernel_rfl)
end TypLaws
end Go.Proofs.YtlibolkkklfdoaaDoor
