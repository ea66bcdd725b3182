/-
  What the integer functions of package octet do: mask, isBits, isWidth, Low, Sign.
-/
import Derived.Test.YtcecekmeopbgjaaProg
import Derived.Test.YtcecekmeopbgjaaOctMath
import Derived.WalkKit
import Derived.WalkSpells
import Derived.WalkLawsBesides
import Derived.Lib.Hide
namespace Go.Proofs.Ytcecekmeopbgjaa
open Go.RowKit

end Go.Proofs.Ytcecekmeopbgjaa
