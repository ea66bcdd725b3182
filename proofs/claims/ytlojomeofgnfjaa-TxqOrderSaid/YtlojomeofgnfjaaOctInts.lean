/-
  What the integer functions of package octet do: mask, isBits, isWidth, Low, Sign.
-/
import Derived.Test.YtlojomeofgnfjaaProg
import Derived.Test.YtlojomeofgnfjaaOctMath
import Derived.WalkKit
import Derived.WalkSpells
import Derived.WalkLawsBesides
import Derived.Lib.Hide
namespace Go.Proofs.Ytlojomeofgnfjaa
open Go.RowKit

end Go.Proofs.Ytlojomeofgnfjaa
