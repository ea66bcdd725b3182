/-
  DERIVED. GIVEN WITH THE SEED: THE CARDS: each row of YtcbffoablononaaDoorRows.lean that lists a variable, with what it lists TIED to the program's text (the seventh form; the later family's looks); each row that meets fmt, with fmt's text TOLD by the authors' own Lean function (tested against real Go, not proved from fmt's source: count such statements apart). THE CARD IS WHAT COUNTS. Prove the row's statement (the work); the ties are given (YtcbffoablononaaDoorTie.lean); close each card by the builder's one call (the guide's Derived/Test/ToyasCard.lean, 'card_holds'). Laid BY PROGRAM, IN A SANDBOX (cutbox-door.mjs). By AI agents, Wed Nov 11 2026. No macro, syntax, notation, axiom, sorry.
-/
import Derived.Test.YtcbffoablononaaDoorRows
import GoSem.ClaimSeven
namespace Go.Proofs.YtcbffoablononaaDoor
namespace Rows

/-- THE TIED CARD OF 'wheelhouselaw15.DictPlays'. -/
def dictPlaysCard : Claim7 := { stood := { row := dictPlaysRow, standIns := [], harness := (true, "0a74d92bc590b36ecc67b9f76d433c3ba9fe6fc1a5c31ed4e60141f8db46792d"), looks := false }, kinds := [], alts := [], laidByText := true, laidKinds := [.data], laidTests := true, laidLooks := .later }
def DictPlaysCardSaid : Prop := Claim7.holds Tryd.pinned (.plain (OpenSpec.ofChange dictPlaysSpec)) dictPlaysCard

/-- THE TIED CARD OF 'wheelhouselaw15.DictEntries'. -/
def dictEntriesCard : Claim7 := { stood := { row := dictEntriesRow, standIns := [], harness := (true, "0a74d92bc590b36ecc67b9f76d433c3ba9fe6fc1a5c31ed4e60141f8db46792d"), looks := false }, kinds := [], alts := [], laidByText := true, laidKinds := [.data], laidTests := true, laidLooks := .later }
def DictEntriesCardSaid : Prop := Claim7.holds Tryd.pinned (.plain (OpenSpec.ofChange dictEntriesSpec)) dictEntriesCard

/-- THE TIED CARD OF 'wheelhouselaw15.DictSets'. -/
def dictSetsCard : Claim7 := { stood := { row := dictSetsRow, standIns := [], harness := (true, "0a74d92bc590b36ecc67b9f76d433c3ba9fe6fc1a5c31ed4e60141f8db46792d"), looks := false }, kinds := [], alts := [], laidByText := true, laidKinds := [.data], laidTests := true, laidLooks := .later }
def DictSetsCardSaid : Prop := Claim7.holds Tryd.pinned (.plain (OpenSpec.ofChange dictSetsSpec)) dictSetsCard

/-- THE TIED CARD OF 'wheelhouselaw15.DictValues'. -/
def dictValuesCard : Claim7 := { stood := { row := dictValuesRow, standIns := [], harness := (true, "0a74d92bc590b36ecc67b9f76d433c3ba9fe6fc1a5c31ed4e60141f8db46792d"), looks := false }, kinds := [], alts := [], laidByText := true, laidKinds := [.data], laidTests := true, laidLooks := .later }
def DictValuesCardSaid : Prop := Claim7.holds Tryd.pinned (.plain (OpenSpec.ofChange dictValuesSpec)) dictValuesCard

/-- THE TIED CARD OF 'wheelhouselaw15.DictNil'. -/
def dictNilCard : Claim7 := { stood := { row := dictNilRow, standIns := [], harness := (true, "0a74d92bc590b36ecc67b9f76d433c3ba9fe6fc1a5c31ed4e60141f8db46792d"), looks := false }, kinds := [], alts := [], laidByText := true, laidKinds := [.data], laidTests := true, laidLooks := .later }
def DictNilCardSaid : Prop := Claim7.holds Tryd.pinned (.plain (OpenSpec.ofChange dictNilSpec)) dictNilCard

/-- THE SECOND FORM's CARD OF 'wheelhouselaw15.DictPlays'. -/
def dictPlaysUptoCard : Claim7 := { stood := { row := dictPlaysUptoRow, standIns := [], harness := (true, "0a74d92bc590b36ecc67b9f76d433c3ba9fe6fc1a5c31ed4e60141f8db46792d"), looks := false }, kinds := [], alts := [], laidByText := true, laidKinds := [.data], laidTests := true, laidLooks := .later }
def DictPlaysUptoCardSaid : Prop := Claim7.holds Tryd.pinned (.plain (OpenSpec.upto dictPlaysSpec)) dictPlaysUptoCard

/-- THE SECOND FORM's CARD OF 'wheelhouselaw15.DictEntries'. -/
def dictEntriesUptoCard : Claim7 := { stood := { row := dictEntriesUptoRow, standIns := [], harness := (true, "0a74d92bc590b36ecc67b9f76d433c3ba9fe6fc1a5c31ed4e60141f8db46792d"), looks := false }, kinds := [], alts := [], laidByText := true, laidKinds := [.data], laidTests := true, laidLooks := .later }
def DictEntriesUptoCardSaid : Prop := Claim7.holds Tryd.pinned (.plain (OpenSpec.upto dictEntriesSpec)) dictEntriesUptoCard

/-- THE SECOND FORM's CARD OF 'wheelhouselaw15.DictSets'. -/
def dictSetsUptoCard : Claim7 := { stood := { row := dictSetsUptoRow, standIns := [], harness := (true, "0a74d92bc590b36ecc67b9f76d433c3ba9fe6fc1a5c31ed4e60141f8db46792d"), looks := false }, kinds := [], alts := [], laidByText := true, laidKinds := [.data], laidTests := true, laidLooks := .later }
def DictSetsUptoCardSaid : Prop := Claim7.holds Tryd.pinned (.plain (OpenSpec.upto dictSetsSpec)) dictSetsUptoCard

/-- THE SECOND FORM's CARD OF 'wheelhouselaw15.DictValues'. -/
def dictValuesUptoCard : Claim7 := { stood := { row := dictValuesUptoRow, standIns := [], harness := (true, "0a74d92bc590b36ecc67b9f76d433c3ba9fe6fc1a5c31ed4e60141f8db46792d"), looks := false }, kinds := [], alts := [], laidByText := true, laidKinds := [.data], laidTests := true, laidLooks := .later }
def DictValuesUptoCardSaid : Prop := Claim7.holds Tryd.pinned (.plain (OpenSpec.upto dictValuesSpec)) dictValuesUptoCard

/-- THE SECOND FORM's CARD OF 'wheelhouselaw15.DictNil'. -/
def dictNilUptoCard : Claim7 := { stood := { row := dictNilUptoRow, standIns := [], harness := (true, "0a74d92bc590b36ecc67b9f76d433c3ba9fe6fc1a5c31ed4e60141f8db46792d"), looks := false }, kinds := [], alts := [], laidByText := true, laidKinds := [.data], laidTests := true, laidLooks := .later }
def DictNilUptoCardSaid : Prop := Claim7.holds Tryd.pinned (.plain (OpenSpec.upto dictNilSpec)) dictNilUptoCard
end Rows
end Go.Proofs.YtcbffoablononaaDoor
