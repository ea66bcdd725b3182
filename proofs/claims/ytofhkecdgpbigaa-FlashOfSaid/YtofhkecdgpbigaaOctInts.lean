/-
  What the integer functions of package octet do: mask, isBits, isWidth, Low, Sign.
-/
import Derived.Test.YtofhkecdgpbigaaProg
import Derived.Test.YtofhkecdgpbigaaOctMath
import Derived.WalkKit
import Derived.WalkSpells
import Derived.WalkLawsBesides
import Derived.Lib.Hide
namespace Go.Proofs.Ytofhkecdgpbigaa
open Go.RowKit

end Go.Proofs.Ytofhkecdgpbigaa
