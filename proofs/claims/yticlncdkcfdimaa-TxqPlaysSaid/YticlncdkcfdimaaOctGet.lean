/-
  What Get and GetInt of package octet do: the number at a place, or a refusal.
-/
import Derived.Test.YticlncdkcfdimaaProg
import Derived.Test.YticlncdkcfdimaaOctInts
import Derived.Test.YticlncdkcfdimaaMem
import Derived.WalkKit
import Derived.WalkSpells
import Derived.WalkLawsBesides
namespace Go.Proofs.Yticlncdkcfdimaa
open Go.RowKit Mem
set_option linter.unusedVariables false

end Go.Proofs.Yticlncdkcfdimaa
