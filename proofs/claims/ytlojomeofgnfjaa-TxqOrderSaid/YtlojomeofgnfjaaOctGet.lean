/-
  What Get and GetInt of package octet do: the number at a place, or a refusal.
-/
import Derived.Test.YtlojomeofgnfjaaProg
import Derived.Test.YtlojomeofgnfjaaOctInts
import Derived.Test.YtlojomeofgnfjaaMem
import Derived.WalkKit
import Derived.WalkSpells
import Derived.WalkLawsBesides
namespace Go.Proofs.Ytlojomeofgnfjaa
open Go.RowKit Mem
set_option linter.unusedVariables false

end Go.Proofs.Ytlojomeofgnfjaa
