/-
  DERIVED. GIVEN WITH THE SEED: THE CARDS: each row of YtpdnfdpoebhjoaaDoorRows.lean that lists a variable, with what it lists TIED to the program's text (the seventh form; the later family's looks); each row that meets fmt, with fmt's text TOLD by the authors' own Lean function (tested against real Go, not proved from fmt's source: count such statements apart). THE CARD IS WHAT COUNTS. Prove the row's statement (the work); the ties are given (YtpdnfdpoebhjoaaDoorTie.lean); close each card by the builder's one call (the guide's Derived/Test/ToyasCard.lean, 'card_holds'). Laid BY PROGRAM, IN A SANDBOX (cutbox-door.mjs). By AI agents, Wed Nov 11 2026. No macro, syntax, notation, axiom, sorry.
-/
import Derived.Test.YtpdnfdpoebhjoaaDoorRows
import GoSem.ClaimSeven
namespace Go.Proofs.YtpdnfdpoebhjoaaDoor
namespace Rows

/-- THE TIED CARD OF 'wheelhouselaw15.DictPlays'. -/
def dictPlaysCard : Claim7 := { stood := { row := dictPlaysRow, standIns := [], harness := (true, "0b42d39d28bad8a0cea16b4ddaad8abe91b05d57e3a3b9afd35cc26bae4dbd1d"), looks := false }, kinds := [], alts := [], laidByText := true, laidKinds := [.data], laidTests := true, laidLooks := .later }
def DictPlaysCardSaid : Prop := Claim7.holds Tryd.pinned (.plain (OpenSpec.ofChange dictPlaysSpec)) dictPlaysCard

/-- THE SECOND FORM's CARD OF 'wheelhouselaw15.DictPlays'. -/
def dictPlaysUptoCard : Claim7 := { stood := { row := dictPlaysUptoRow, standIns := [], harness := (true, "0b42d39d28bad8a0cea16b4ddaad8abe91b05d57e3a3b9afd35cc26bae4dbd1d"), looks := false }, kinds := [], alts := [], laidByText := true, laidKinds := [.data], laidTests := true, laidLooks := .later }
def DictPlaysUptoCardSaid : Prop := Claim7.holds Tryd.pinned (.plain (OpenSpec.upto dictPlaysSpec)) dictPlaysUptoCard
end Rows
end Go.Proofs.YtpdnfdpoebhjoaaDoor
