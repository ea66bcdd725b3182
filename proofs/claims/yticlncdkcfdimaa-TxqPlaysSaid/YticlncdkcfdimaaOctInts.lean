/-
  What the integer functions of package octet do: mask, isBits, isWidth, Low, Sign.
-/
import Derived.Test.YticlncdkcfdimaaProg
import Derived.Test.YticlncdkcfdimaaOctMath
import Derived.WalkKit
import Derived.WalkSpells
import Derived.WalkLawsBesides
import Derived.Lib.Hide
namespace Go.Proofs.Yticlncdkcfdimaa
open Go.RowKit

end Go.Proofs.Yticlncdkcfdimaa
