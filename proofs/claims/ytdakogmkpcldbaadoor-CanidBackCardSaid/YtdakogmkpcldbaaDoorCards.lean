/-
  DERIVED. GIVEN WITH THE SEED: THE CARDS: each row of YtdakogmkpcldbaaDoorRows.lean that lists a variable, with what it lists TIED to the program's text (the seventh form; the later family's looks); each row that meets fmt, with fmt's text TOLD by the authors' own Lean function (tested against real Go, not proved from fmt's source: count such statements apart). THE CARD IS WHAT COUNTS. Prove the row's statement (the work); the ties are given (YtdakogmkpcldbaaDoorTie.lean); close each card by the builder's one call (the guide's Derived/Test/ToyasCard.lean, 'card_holds'). Laid BY PROGRAM, IN A SANDBOX (cutbox-door.mjs). By AI agents, Wed Nov 11 2026. No macro, syntax, notation, axiom, sorry.
-/
import Derived.Test.YtdakogmkpcldbaaDoorRows
import GoSem.ClaimSeven
namespace Go.Proofs.YtdakogmkpcldbaaDoor
namespace Rows

/-- THE TIED CARD OF 'wheelhouselaw11.CanidNames'. -/
def canidNamesCard : Claim7 := { stood := { row := canidNamesRow, standIns := [], harness := (true, "6233182dd3f7d5186291f294288edc9ad488ee0b6a95a3a2b2576d409713c2f5"), looks := false }, kinds := [], alts := [], laidByText := true, laidKinds := [.data, .data], laidTests := true, laidLooks := .later }
def CanidNamesCardSaid : Prop := Claim7.holds Tryd.pinned (.plain (OpenSpec.ofChange canidNamesSpec)) canidNamesCard

/-- THE TIED CARD OF 'wheelhouselaw11.CanidIds'. -/
def canidIdsCard : Claim7 := { stood := { row := canidIdsRow, standIns := [], harness := (true, "6233182dd3f7d5186291f294288edc9ad488ee0b6a95a3a2b2576d409713c2f5"), looks := false }, kinds := [], alts := [], laidByText := true, laidKinds := [.data, .data], laidTests := true, laidLooks := .later }
def CanidIdsCardSaid : Prop := Claim7.holds Tryd.pinned (.plain (OpenSpec.ofChange canidIdsSpec)) canidIdsCard

/-- THE TIED CARD OF 'wheelhouselaw11.CanidWords'. -/
def canidWordsCard : Claim7 := { stood := { row := canidWordsRow, standIns := [], harness := (true, "6233182dd3f7d5186291f294288edc9ad488ee0b6a95a3a2b2576d409713c2f5"), looks := false }, kinds := [], alts := [], laidByText := true, laidKinds := [.data, .data], laidTests := true, laidLooks := .later }
def CanidWordsCardSaid : Prop := Claim7.holds Tryd.pinned (.plain (OpenSpec.ofChange canidWordsSpec)) canidWordsCard

/-- THE TIED CARD OF 'wheelhouselaw11.CanidBack'. -/
def canidBackCard : Claim7 := { stood := { row := canidBackRow, standIns := [], harness := (true, "6233182dd3f7d5186291f294288edc9ad488ee0b6a95a3a2b2576d409713c2f5"), looks := false }, kinds := [], alts := [], laidByText := true, laidKinds := [.data, .data], laidTests := true, laidLooks := .later }
def CanidBackCardSaid : Prop := Claim7.holds Tryd.pinned (.plain (OpenSpec.ofChange canidBackSpec)) canidBackCard

/-- THE TIED CARD OF 'wheelhouselaw11.CanidJoins'. -/
def canidJoinsCard : Claim7 := { stood := { row := canidJoinsRow, standIns := [], harness := (true, "6233182dd3f7d5186291f294288edc9ad488ee0b6a95a3a2b2576d409713c2f5"), looks := false }, kinds := [], alts := [], laidByText := true, laidKinds := [.data, .data], laidTests := true, laidLooks := .later }
def CanidJoinsCardSaid : Prop := Claim7.holds Tryd.pinned (.plain (OpenSpec.ofChange canidJoinsSpec)) canidJoinsCard

/-- THE SECOND FORM's CARD OF 'wheelhouselaw11.CanidNames'. -/
def canidNamesUptoCard : Claim7 := { stood := { row := canidNamesUptoRow, standIns := [], harness := (true, "6233182dd3f7d5186291f294288edc9ad488ee0b6a95a3a2b2576d409713c2f5"), looks := false }, kinds := [], alts := [], laidByText := true, laidKinds := [.data, .data], laidTests := true, laidLooks := .later }
def CanidNamesUptoCardSaid : Prop := Claim7.holds Tryd.pinned (.plain (OpenSpec.upto canidNamesSpec)) canidNamesUptoCard

/-- THE SECOND FORM's CARD OF 'wheelhouselaw11.CanidIds'. -/
def canidIdsUptoCard : Claim7 := { stood := { row := canidIdsUptoRow, standIns := [], harness := (true, "6233182dd3f7d5186291f294288edc9ad488ee0b6a95a3a2b2576d409713c2f5"), looks := false }, kinds := [], alts := [], laidByText := true, laidKinds := [.data, .data], laidTests := true, laidLooks := .later }
def CanidIdsUptoCardSaid : Prop := Claim7.holds Tryd.pinned (.plain (OpenSpec.upto canidIdsSpec)) canidIdsUptoCard

/-- THE SECOND FORM's CARD OF 'wheelhouselaw11.CanidWords'. -/
def canidWordsUptoCard : Claim7 := { stood := { row := canidWordsUptoRow, standIns := [], harness := (true, "6233182dd3f7d5186291f294288edc9ad488ee0b6a95a3a2b2576d409713c2f5"), looks := false }, kinds := [], alts := [], laidByText := true, laidKinds := [.data, .data], laidTests := true, laidLooks := .later }
def CanidWordsUptoCardSaid : Prop := Claim7.holds Tryd.pinned (.plain (OpenSpec.upto canidWordsSpec)) canidWordsUptoCard

/-- THE SECOND FORM's CARD OF 'wheelhouselaw11.CanidBack'. -/
def canidBackUptoCard : Claim7 := { stood := { row := canidBackUptoRow, standIns := [], harness := (true, "6233182dd3f7d5186291f294288edc9ad488ee0b6a95a3a2b2576d409713c2f5"), looks := false }, kinds := [], alts := [], laidByText := true, laidKinds := [.data, .data], laidTests := true, laidLooks := .later }
def CanidBackUptoCardSaid : Prop := Claim7.holds Tryd.pinned (.plain (OpenSpec.upto canidBackSpec)) canidBackUptoCard

/-- THE SECOND FORM's CARD OF 'wheelhouselaw11.CanidJoins'. -/
def canidJoinsUptoCard : Claim7 := { stood := { row := canidJoinsUptoRow, standIns := [], harness := (true, "6233182dd3f7d5186291f294288edc9ad488ee0b6a95a3a2b2576d409713c2f5"), looks := false }, kinds := [], alts := [], laidByText := true, laidKinds := [.data, .data], laidTests := true, laidLooks := .later }
def CanidJoinsUptoCardSaid : Prop := Claim7.holds Tryd.pinned (.plain (OpenSpec.upto canidJoinsSpec)) canidJoinsUptoCard
end Rows
end Go.Proofs.YtdakogmkpcldbaaDoor
