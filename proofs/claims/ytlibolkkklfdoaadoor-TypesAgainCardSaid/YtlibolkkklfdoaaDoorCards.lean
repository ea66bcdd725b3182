/-
  DERIVED. GIVEN WITH THE SEED: THE CARDS: each row of YtlibolkkklfdoaaDoorRows.lean that lists a variable, with what it lists TIED to the program's text (the seventh form; the later family's looks); each row that meets fmt, with fmt's text TOLD by the authors' own Lean function (tested against real Go, not proved from fmt's source: count such statements apart). THE CARD IS WHAT COUNTS. Prove the row's statement (the work); the ties are given (YtlibolkkklfdoaaDoorTie.lean); close each card by the builder's one call (the guide's Derived/Test/ToyasCard.lean, 'card_holds'). Laid BY PROGRAM, IN A SANDBOX (cutbox-door.mjs). By AI agents, Wed Nov 11 2026. No macro, syntax, notation, axiom, sorry.
-/
import Derived.Test.YtlibolkkklfdoaaDoorRows
import GoSem.ClaimSeven
namespace Go.Proofs.YtlibolkkklfdoaaDoor
namespace Rows

/-- THE TIED CARD OF 'wheelhouselaw05.TypesKnows'. -/
def typesKnowsCard : Claim7 := { stood := { row := typesKnowsRow, standIns := [], harness := (true, "10a12530e211fea18e89e2a8b784d20fde809d459219bf3323112745bb089a0b"), looks := true }, kinds := [], alts := [], laidByText := true, laidKinds := [.data, .data, .data, .sentinel, .sentinel, .data], laidTests := true, laidLooks := .later }
def TypesKnowsCardSaid : Prop := Claim7.holds Tryd.pinned (.plain (OpenSpec.ofChange typesKnowsSpec)) typesKnowsCard

/-- THE TIED CARD OF 'wheelhouselaw05.TypesCodes'. -/
def typesCodesCard : Claim7 := { stood := { row := typesCodesRow, standIns := [], harness := (true, "10a12530e211fea18e89e2a8b784d20fde809d459219bf3323112745bb089a0b"), looks := true }, kinds := [], alts := [], laidByText := true, laidKinds := [.data, .data, .data, .sentinel, .sentinel, .data], laidTests := true, laidLooks := .later }
def TypesCodesCardSaid : Prop := Claim7.holds Tryd.pinned (.plain (OpenSpec.ofChange typesCodesSpec)) typesCodesCard

/-- THE TIED CARD OF 'wheelhouselaw05.TypesChecks'. -/
def typesChecksCard : Claim7 := { stood := { row := typesChecksRow, standIns := [], harness := (true, "10a12530e211fea18e89e2a8b784d20fde809d459219bf3323112745bb089a0b"), looks := true }, kinds := [], alts := [], laidByText := true, laidKinds := [.data, .data, .data, .sentinel, .sentinel, .data], laidTests := true, laidLooks := .later }
def TypesChecksCardSaid : Prop := Claim7.holds Tryd.pinned (.plain (OpenSpec.ofChange typesChecksSpec)) typesChecksCard

/-- THE TIED CARD OF 'wheelhouselaw05.TypesTexts'. -/
def typesTextsCard : Claim7 := { stood := { row := typesTextsRow, standIns := [], harness := (true, "10a12530e211fea18e89e2a8b784d20fde809d459219bf3323112745bb089a0b"), looks := true }, kinds := [], alts := [], laidByText := true, laidKinds := [.data, .data, .data, .sentinel, .sentinel, .data], laidTests := true, laidLooks := .later }
def TypesTextsCardSaid : Prop := Claim7.holds Tryd.pinned (.plain (OpenSpec.ofChange typesTextsSpec)) typesTextsCard

/-- THE TIED CARD OF 'wheelhouselaw05.TypesBack'. -/
def typesBackCard : Claim7 := { stood := { row := typesBackRow, standIns := [], harness := (true, "10a12530e211fea18e89e2a8b784d20fde809d459219bf3323112745bb089a0b"), looks := true }, kinds := [], alts := [], laidByText := true, laidKinds := [.data, .data, .data, .sentinel, .sentinel, .data], laidTests := true, laidLooks := .later }
def TypesBackCardSaid : Prop := Claim7.holds Tryd.pinned (.plain (OpenSpec.ofChange typesBackSpec)) typesBackCard

/-- THE TIED CARD OF 'wheelhouselaw05.TypesAgain'. -/
def typesAgainCard : Claim7 := { stood := { row := typesAgainRow, standIns := [], harness := (true, "10a12530e211fea18e89e2a8b784d20fde809d459219bf3323112745bb089a0b"), looks := true }, kinds := [], alts := [], laidByText := true, laidKinds := [.data, .data, .data, .sentinel, .sentinel, .data], laidTests := true, laidLooks := .later }
def TypesAgainCardSaid : Prop := Claim7.holds Tryd.pinned (.plain (OpenSpec.ofChange typesAgainSpec)) typesAgainCard

/-- THE SECOND FORM's CARD OF 'wheelhouselaw05.TypesKnows'. -/
def typesKnowsUptoCard : Claim7 := { stood := { row := typesKnowsUptoRow, standIns := [], harness := (true, "10a12530e211fea18e89e2a8b784d20fde809d459219bf3323112745bb089a0b"), looks := true }, kinds := [], alts := [], laidByText := true, laidKinds := [.data, .data, .data, .sentinel, .sentinel, .data], laidTests := true, laidLooks := .later }
def TypesKnowsUptoCardSaid : Prop := Claim7.holds Tryd.pinned (.plain (OpenSpec.upto typesKnowsSpec)) typesKnowsUptoCard

/-- THE SECOND FORM's CARD OF 'wheelhouselaw05.TypesCodes'. -/
def typesCodesUptoCard : Claim7 := { stood := { row := typesCodesUptoRow, standIns := [], harness := (true, "10a12530e211fea18e89e2a8b784d20fde809d459219bf3323112745bb089a0b"), looks := true }, kinds := [], alts := [], laidByText := true, laidKinds := [.data, .data, .data, .sentinel, .sentinel, .data], laidTests := true, laidLooks := .later }
def TypesCodesUptoCardSaid : Prop := Claim7.holds Tryd.pinned (.plain (OpenSpec.upto typesCodesSpec)) typesCodesUptoCard

/-- THE SECOND FORM's CARD OF 'wheelhouselaw05.TypesChecks'. -/
def typesChecksUptoCard : Claim7 := { stood := { row := typesChecksUptoRow, standIns := [], harness := (true, "10a12530e211fea18e89e2a8b784d20fde809d459219bf3323112745bb089a0b"), looks := true }, kinds := [], alts := [], laidByText := true, laidKinds := [.data, .data, .data, .sentinel, .sentinel, .data], laidTests := true, laidLooks := .later }
def TypesChecksUptoCardSaid : Prop := Claim7.holds Tryd.pinned (.plain (OpenSpec.upto typesChecksSpec)) typesChecksUptoCard

/-- THE SECOND FORM's CARD OF 'wheelhouselaw05.TypesTexts'. -/
def typesTextsUptoCard : Claim7 := { stood := { row := typesTextsUptoRow, standIns := [], harness := (true, "10a12530e211fea18e89e2a8b784d20fde809d459219bf3323112745bb089a0b"), looks := true }, kinds := [], alts := [], laidByText := true, laidKinds := [.data, .data, .data, .sentinel, .sentinel, .data], laidTests := true, laidLooks := .later }
def TypesTextsUptoCardSaid : Prop := Claim7.holds Tryd.pinned (.plain (OpenSpec.upto typesTextsSpec)) typesTextsUptoCard

/-- THE SECOND FORM's CARD OF 'wheelhouselaw05.TypesBack'. -/
def typesBackUptoCard : Claim7 := { stood := { row := typesBackUptoRow, standIns := [], harness := (true, "10a12530e211fea18e89e2a8b784d20fde809d459219bf3323112745bb089a0b"), looks := true }, kinds := [], alts := [], laidByText := true, laidKinds := [.data, .data, .data, .sentinel, .sentinel, .data], laidTests := true, laidLooks := .later }
def TypesBackUptoCardSaid : Prop := Claim7.holds Tryd.pinned (.plain (OpenSpec.upto typesBackSpec)) typesBackUptoCard

/-- THE SECOND FORM's CARD OF 'wheelhouselaw05.TypesAgain'. -/
def typesAgainUptoCard : Claim7 := { stood := { row := typesAgainUptoRow, standIns := [], harness := (true, "10a12530e211fea18e89e2a8b784d20fde809d459219bf3323112745bb089a0b"), looks := true }, kinds := [], alts := [], laidByText := true, laidKinds := [.data, .data, .data, .sentinel, .sentinel, .data], laidTests := true, laidLooks := .later }
def TypesAgainUptoCardSaid : Prop := Claim7.holds Tryd.pinned (.plain (OpenSpec.upto typesAgainSpec)) typesAgainUptoCard
end Rows
end Go.Proofs.YtlibolkkklfdoaaDoor
