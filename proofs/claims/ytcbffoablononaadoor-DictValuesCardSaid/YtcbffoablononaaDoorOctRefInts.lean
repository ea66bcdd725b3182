/-
  What the document's integer functions for package octet do: Low, Sign, half.
-/
import Derived.Test.YtcbffoablononaaDoorProg
import Derived.Test.YtcbffoablononaaDoorOctMath
import Derived.WalkKit
import Derived.WalkSpells
import Derived.WalkLawsBesides
import Derived.Lib.Hide
namespace Go.Proofs.YtcbffoablononaaDoor
open Go.RowKit

end Go.Proofs.YtcbffoablononaaDoor
