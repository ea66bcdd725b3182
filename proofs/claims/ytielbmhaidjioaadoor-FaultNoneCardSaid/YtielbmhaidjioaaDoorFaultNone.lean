/-
  FaultNone, as it is given: no fault has no code, no family, and says nothing; a fault under none is one of its own. For every code and every text, where the package's variables hold what the program's text lays in them (the card ties that).
-/
import Derived.Test.YtielbmhaidjioaaDoorFltLift
import Derived.Test.YtielbmhaidjioaaDoorFltLawNone
namespace Go.Proofs.YtielbmhaidjioaaDoor
theorem faultNone_proved : Rows.FaultNoneCardSaid :=
  FltLift.card fun c t h0 h1 ht a w hg => none_law c t h0 h1 ht a w hg
end Go.Proofs.YtielbmhaidjioaaDoor
