/-
  What Get and GetInt of package octet do: the number at a place, or a refusal.
-/
import Derived.Test.YtcecekmeopbgjaaProg
import Derived.Test.YtcecekmeopbgjaaOctInts
import Derived.Test.YtcecekmeopbgjaaMem
import Derived.WalkKit
import Derived.WalkSpells
import Derived.WalkLawsBesides
namespace Go.Proofs.Ytcecekmeopbgjaa
open Go.RowKit Mem
set_option linter.unusedVariables false

end Go.Proofs.Ytcecekmeopbgjaa
