/-
  What the document's functions for package octet do with bytes: digits, Join, Put, half, PutInt, Get, GetInt.
-/
import Derived.Test.YtlojomeofgnfjaaProg
import Derived.Test.YtlojomeofgnfjaaOctLay
import Derived.Test.YtlojomeofgnfjaaOctGet
namespace Go.Proofs.Ytlojomeofgnfjaa
open Go.RowKit Mem
set_option linter.unusedVariables false

end Go.Proofs.Ytlojomeofgnfjaa
