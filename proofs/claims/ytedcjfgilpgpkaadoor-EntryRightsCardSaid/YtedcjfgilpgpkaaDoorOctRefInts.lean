/-
  What the document's integer functions for package octet do: Low, Sign, half.
-/
import Derived.Test.YtedcjfgilpgpkaaDoorProg
import Derived.Test.YtedcjfgilpgpkaaDoorOctMath
import Derived.WalkKit
import Derived.WalkSpells
import Derived.WalkLawsBesides
import Derived.Lib.Hide
namespace Go.Proofs.YtedcjfgilpgpkaaDoor
open Go.RowKit

end Go.Proofs.YtedcjfgilpgpkaaDoor
