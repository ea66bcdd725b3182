/-
  DERIVED. GIVEN WITH THE SEED: THE CARDS: each row of YtedcjfgilpgpkaaDoorRows.lean that lists a variable, with what it lists TIED to the program's text (the seventh form; the later family's looks); each row that meets fmt, with fmt's text TOLD by the authors' own Lean function (tested against real Go, not proved from fmt's source: count such statements apart). THE CARD IS WHAT COUNTS. Prove the row's statement (the work); the ties are given (YtedcjfgilpgpkaaDoorTie.lean); close each card by the builder's one call (the guide's Derived/Test/ToyasCard.lean, 'card_holds'). Laid BY PROGRAM, IN A SANDBOX (cutbox-door.mjs). By AI agents, Wed Nov 11 2026. No macro, syntax, notation, axiom, sorry.
-/
import Derived.Test.YtedcjfgilpgpkaaDoorRows
import GoSem.ClaimSeven
namespace Go.Proofs.YtedcjfgilpgpkaaDoor
namespace Rows

/-- THE TIED CARD OF 'wheelhouselaw14.EntryRights'. -/
def entryRightsCard : Claim7 := { stood := { row := entryRightsRow, standIns := [], harness := (true, "4abe6ab1a9ae7bce8a1775c4137bc53a6cdb1b91b1ded80244bce0dff751c7e8"), looks := false }, kinds := [], alts := [], laidByText := true, laidKinds := [.data], laidTests := true, laidLooks := .later }
def EntryRightsCardSaid : Prop := Claim7.holds Tryd.pinned (.plain (OpenSpec.ofChange entryRightsSpec)) entryRightsCard

/-- THE TIED CARD OF 'wheelhouselaw14.EntryRules'. -/
def entryRulesCard : Claim7 := { stood := { row := entryRulesRow, standIns := [], harness := (true, "4abe6ab1a9ae7bce8a1775c4137bc53a6cdb1b91b1ded80244bce0dff751c7e8"), looks := false }, kinds := [], alts := [], laidByText := true, laidKinds := [.data], laidTests := true, laidLooks := .later }
def EntryRulesCardSaid : Prop := Claim7.holds Tryd.pinned (.plain (OpenSpec.ofChange entryRulesSpec)) entryRulesCard

/-- THE TIED CARD OF 'wheelhouselaw14.EntryValues'. -/
def entryValuesCard : Claim7 := { stood := { row := entryValuesRow, standIns := [], harness := (true, "4abe6ab1a9ae7bce8a1775c4137bc53a6cdb1b91b1ded80244bce0dff751c7e8"), looks := false }, kinds := [], alts := [], laidByText := true, laidKinds := [.data], laidTests := true, laidLooks := .later }
def EntryValuesCardSaid : Prop := Claim7.holds Tryd.pinned (.plain (OpenSpec.ofChange entryValuesSpec)) entryValuesCard

/-- THE TIED CARD OF 'wheelhouselaw14.EntryNumbers'. -/
def entryNumbersCard : Claim7 := { stood := { row := entryNumbersRow, standIns := [], harness := (true, "4abe6ab1a9ae7bce8a1775c4137bc53a6cdb1b91b1ded80244bce0dff751c7e8"), looks := false }, kinds := [], alts := [], laidByText := true, laidKinds := [.data], laidTests := true, laidLooks := .later }
def EntryNumbersCardSaid : Prop := Claim7.holds Tryd.pinned (.plain (OpenSpec.ofChange entryNumbersSpec)) entryNumbersCard

/-- THE TIED CARD OF 'wheelhouselaw14.EntryOrder'. -/
def entryOrderCard : Claim7 := { stood := { row := entryOrderRow, standIns := [], harness := (true, "4abe6ab1a9ae7bce8a1775c4137bc53a6cdb1b91b1ded80244bce0dff751c7e8"), looks := false }, kinds := [], alts := [], laidByText := true, laidKinds := [.data], laidTests := true, laidLooks := .later }
def EntryOrderCardSaid : Prop := Claim7.holds Tryd.pinned (.plain (OpenSpec.ofChange entryOrderSpec)) entryOrderCard

/-- THE SECOND FORM's CARD OF 'wheelhouselaw14.EntryRights'. -/
def entryRightsUptoCard : Claim7 := { stood := { row := entryRightsUptoRow, standIns := [], harness := (true, "4abe6ab1a9ae7bce8a1775c4137bc53a6cdb1b91b1ded80244bce0dff751c7e8"), looks := false }, kinds := [], alts := [], laidByText := true, laidKinds := [.data], laidTests := true, laidLooks := .later }
def EntryRightsUptoCardSaid : Prop := Claim7.holds Tryd.pinned (.plain (OpenSpec.upto entryRightsSpec)) entryRightsUptoCard

/-- THE SECOND FORM's CARD OF 'wheelhouselaw14.EntryRules'. -/
def entryRulesUptoCard : Claim7 := { stood := { row := entryRulesUptoRow, standIns := [], harness := (true, "4abe6ab1a9ae7bce8a1775c4137bc53a6cdb1b91b1ded80244bce0dff751c7e8"), looks := false }, kinds := [], alts := [], laidByText := true, laidKinds := [.data], laidTests := true, laidLooks := .later }
def EntryRulesUptoCardSaid : Prop := Claim7.holds Tryd.pinned (.plain (OpenSpec.upto entryRulesSpec)) entryRulesUptoCard

/-- THE SECOND FORM's CARD OF 'wheelhouselaw14.EntryValues'. -/
def entryValuesUptoCard : Claim7 := { stood := { row := entryValuesUptoRow, standIns := [], harness := (true, "4abe6ab1a9ae7bce8a1775c4137bc53a6cdb1b91b1ded80244bce0dff751c7e8"), looks := false }, kinds := [], alts := [], laidByText := true, laidKinds := [.data], laidTests := true, laidLooks := .later }
def EntryValuesUptoCardSaid : Prop := Claim7.holds Tryd.pinned (.plain (OpenSpec.upto entryValuesSpec)) entryValuesUptoCard

/-- THE SECOND FORM's CARD OF 'wheelhouselaw14.EntryNumbers'. -/
def entryNumbersUptoCard : Claim7 := { stood := { row := entryNumbersUptoRow, standIns := [], harness := (true, "4abe6ab1a9ae7bce8a1775c4137bc53a6cdb1b91b1ded80244bce0dff751c7e8"), looks := false }, kinds := [], alts := [], laidByText := true, laidKinds := [.data], laidTests := true, laidLooks := .later }
def EntryNumbersUptoCardSaid : Prop := Claim7.holds Tryd.pinned (.plain (OpenSpec.upto entryNumbersSpec)) entryNumbersUptoCard

/-- THE SECOND FORM's CARD OF 'wheelhouselaw14.EntryOrder'. -/
def entryOrderUptoCard : Claim7 := { stood := { row := entryOrderUptoRow, standIns := [], harness := (true, "4abe6ab1a9ae7bce8a1775c4137bc53a6cdb1b91b1ded80244bce0dff751c7e8"), looks := false }, kinds := [], alts := [], laidByText := true, laidKinds := [.data], laidTests := true, laidLooks := .later }
def EntryOrderUptoCardSaid : Prop := Claim7.holds Tryd.pinned (.plain (OpenSpec.upto entryOrderSpec)) entryOrderUptoCard
end Rows
end Go.Proofs.YtedcjfgilpgpkaaDoor
