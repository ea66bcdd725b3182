/-
  What the document's integer functions for package octet do: Low, Sign, half.
-/
import Derived.Test.YtpdnfdpoebhjoaaDoorProg
import Derived.Test.YtpdnfdpoebhjoaaDoorOctMath
import Derived.WalkKit
import Derived.WalkSpells
import Derived.WalkLawsBesides
import Derived.Lib.Hide
namespace Go.Proofs.YtpdnfdpoebhjoaaDoor
open Go.RowKit

end Go.Proofs.YtpdnfdpoebhjoaaDoor
