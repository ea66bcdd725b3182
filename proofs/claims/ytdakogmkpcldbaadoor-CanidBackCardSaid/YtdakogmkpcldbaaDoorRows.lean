/-
  NARROWER THAN 'FOR EVERY INPUT', by the rows' own cells (each row's printed sentence says how): CanidNames: laid · CanidIds: laid · CanidWords: laid · CanidBack: laid · CanidJoins: laid.
  DERIVED. THE GIVEN ROWS OF THIS SEAT. 5 by the template 'for every input the law returns true; each argument reads behind the call as it read before'; 0 by the template 'total and deterministic' (their statements: YtdakogmkpcldbaaDoorTotals.lean).
  GIVEN WITH THE SEED: the statements are not yours to turn. If you find one false, say at which input.
  Laid BY PROGRAM, IN A SANDBOX (cutbox-rows.mjs): the forced cells as the released guide's own fill.sh prints them over the translation faa9a34edeabb359… (all of the seat's roots in one cut). By AI agents, Wed Nov 11 2026. No macro, syntax, notation, axiom, sorry.
-/
import Derived.Test.YtdakogmkpcldbaaDoorChecked
import GoSem.Claim
import GoSem.ClaimJoined
import GoSem.ClaimMapViews
import Derived.JoinedTies
import Derived.KernelRfl
namespace Go.Proofs.YtdakogmkpcldbaaDoor
/- THE CELL 'sum', in the pinned program and in every row, IS THE sha256 OF THE DUMP (.gsa) THAT YtdakogmkpcldbaaDoorProg.lean LOADS. Nothing in Lean hashes anything: it is a label: what it is worth is what the hold of that sum in a sandbox is worth. -/
noncomputable def Tryd.pinned : Pinned := { name := "ytdakogmkpcldbaadoor", sum := "faa9a34edeabb359c75a5b8b3e7aca8380a069d1be118c19e142531321dd458e", checked := Tryd.checked }
namespace Rows
def none {H : Type} : Left H := { results := [], args := [] }

/- WHAT THE LISTED PACKAGE-LEVEL VARIABLES READ AS WHEN THE CALL BEGINS. Each datum BY PROGRAM (the guide's laid-datum.mjs) off the statement by which the dump's own 'gosem.cut.vars' lays the variable. In a bare row this is a premise. The card (YtdakogmkpcldbaaDoorCards.lean) ties it to the program's text. -/
def laid_wheelhouse_canid_rows {H : Type} : DataW H := .agg [.agg [.lit (.int .i64 1), .lit (.int .i64 0), .lit (.int .i64 0), .lit (.int .i64 0), .lit (.int .i64 0)], .agg [.lit (.int .i64 2), .lit (.int .i64 0), .lit (.int .i64 0), .lit (.int .i64 0), .lit (.int .i64 128)], .agg [.lit (.int .i64 3), .lit (.int .i64 0), .lit (.int .i64 0), .lit (.int .i64 0), .lit (.int .i64 256)], .agg [.lit (.int .i64 4), .lit (.int .i64 0), .lit (.int .i64 1), .lit (.int .i64 127), .lit (.int .i64 128)], .agg [.lit (.int .i64 5), .lit (.int .i64 1), .lit (.int .i64 1), .lit (.int .i64 127), .lit (.int .i64 384)], .agg [.lit (.int .i64 6), .lit (.int .i64 1), .lit (.int .i64 1), .lit (.int .i64 127), .lit (.int .i64 512)], .agg [.lit (.int .i64 5), .lit (.int .i64 2), .lit (.int .i64 1), .lit (.int .i64 127), .lit (.int .i64 640)], .agg [.lit (.int .i64 6), .lit (.int .i64 2), .lit (.int .i64 1), .lit (.int .i64 127), .lit (.int .i64 768)], .agg [.lit (.int .i64 5), .lit (.int .i64 3), .lit (.int .i64 1), .lit (.int .i64 127), .lit (.int .i64 896)], .agg [.lit (.int .i64 6), .lit (.int .i64 3), .lit (.int .i64 1), .lit (.int .i64 127), .lit (.int .i64 1024)], .agg [.lit (.int .i64 5), .lit (.int .i64 4), .lit (.int .i64 1), .lit (.int .i64 127), .lit (.int .i64 1152)], .agg [.lit (.int .i64 6), .lit (.int .i64 4), .lit (.int .i64 1), .lit (.int .i64 127), .lit (.int .i64 1280)], .agg [.lit (.int .i64 7), .lit (.int .i64 0), .lit (.int .i64 1), .lit (.int .i64 127), .lit (.int .i64 1408)], .agg [.lit (.int .i64 8), .lit (.int .i64 0), .lit (.int .i64 1), .lit (.int .i64 127), .lit (.int .i64 1536)], .agg [.lit (.int .i64 9), .lit (.int .i64 0), .lit (.int .i64 1), .lit (.int .i64 127), .lit (.int .i64 1792)]]
def laid_wheelhouse_canid_restricted {H : Type} : DataW H := .agg [.agg [.lit (.int .i64 0), .lit (.int .i64 127)], .agg [.lit (.int .i64 257), .lit (.int .i64 384)], .agg [.lit (.int .i64 1409), .lit (.int .i64 1535)], .agg [.lit (.int .i64 1537), .lit (.int .i64 1663)], .agg [.lit (.int .i64 1760), .lit (.int .i64 1791)], .agg [.lit (.int .i64 1793), .lit (.int .i64 2047)]]

/-- 'wheelhouselaw11.CanidNames': WHATEVER THE INPUT: true; the input reads as it did. -/
def canidNamesSpec : ChangeSpec := { name := "canidNames", fn := fun _ => fun
  | [d1, d2, d3] => { results := [.lit (.bool true)], args := [d1, d2, d3] }
  | _ => none }
def canidNamesRow : OpenClaim := { program := "ytdakogmkpcldbaadoor", sum := "faa9a34edeabb359c75a5b8b3e7aca8380a069d1be118c19e142531321dd458e", func := "wheelhouse/wheelhouselaw11.CanidNames", spec := "canidNames", named := ["wheelhouse/canid.rows", "wheelhouse/canid.restricted"], apart := false, laid := [("wheelhouse/canid.rows", laid_wheelhouse_canid_rows), ("wheelhouse/canid.restricted", laid_wheelhouse_canid_restricted)] }
def CanidNamesSaid : Prop := canidNamesRow.holds Tryd.pinned (OpenSpec.ofChange canidNamesSpec)

/-- ITS FALSE NEIGHBOUR: 'it returns false'. Refute it at one input. -/
def canidNamesWrong : ChangeSpec := { name := "canidNames", fn := fun _ => fun
  | [d1, d2, d3] => { results := [.lit (.bool false)], args := [d1, d2, d3] }
  | _ => none }
def CanidNamesWrongFalsely : Prop := canidNamesRow.holds Tryd.pinned (OpenSpec.ofChange canidNamesWrong)

/-- 'wheelhouselaw11.CanidIds': WHATEVER THE INPUT: true; the input reads as it did. -/
def canidIdsSpec : ChangeSpec := { name := "canidIds", fn := fun _ => fun
  | [d] => { results := [.lit (.bool true)], args := [d] }
  | _ => none }
def canidIdsRow : OpenClaim := { program := "ytdakogmkpcldbaadoor", sum := "faa9a34edeabb359c75a5b8b3e7aca8380a069d1be118c19e142531321dd458e", func := "wheelhouse/wheelhouselaw11.CanidIds", spec := "canidIds", named := ["wheelhouse/canid.rows", "wheelhouse/canid.restricted"], apart := false, laid := [("wheelhouse/canid.rows", laid_wheelhouse_canid_rows), ("wheelhouse/canid.restricted", laid_wheelhouse_canid_restricted)] }
def CanidIdsSaid : Prop := canidIdsRow.holds Tryd.pinned (OpenSpec.ofChange canidIdsSpec)

/-- ITS FALSE NEIGHBOUR: 'it returns false'. Refute it at one input. -/
def canidIdsWrong : ChangeSpec := { name := "canidIds", fn := fun _ => fun
  | [d] => { results := [.lit (.bool false)], args := [d] }
  | _ => none }
def CanidIdsWrongFalsely : Prop := canidIdsRow.holds Tryd.pinned (OpenSpec.ofChange canidIdsWrong)

/-- 'wheelhouselaw11.CanidWords': WHATEVER THE INPUT: true; the input reads as it did. -/
def canidWordsSpec : ChangeSpec := { name := "canidWords", fn := fun _ => fun
  | [d1, d2] => { results := [.lit (.bool true)], args := [d1, d2] }
  | _ => none }
def canidWordsRow : OpenClaim := { program := "ytdakogmkpcldbaadoor", sum := "faa9a34edeabb359c75a5b8b3e7aca8380a069d1be118c19e142531321dd458e", func := "wheelhouse/wheelhouselaw11.CanidWords", spec := "canidWords", named := ["wheelhouse/canid.rows", "wheelhouse/canid.restricted"], apart := false, laid := [("wheelhouse/canid.rows", laid_wheelhouse_canid_rows), ("wheelhouse/canid.restricted", laid_wheelhouse_canid_restricted)] }
def CanidWordsSaid : Prop := canidWordsRow.holds Tryd.pinned (OpenSpec.ofChange canidWordsSpec)

/-- ITS FALSE NEIGHBOUR: 'it returns false'. Refute it at one input. -/
def canidWordsWrong : ChangeSpec := { name := "canidWords", fn := fun _ => fun
  | [d1, d2] => { results := [.lit (.bool false)], args := [d1, d2] }
  | _ => none }
def CanidWordsWrongFalsely : Prop := canidWordsRow.holds Tryd.pinned (OpenSpec.ofChange canidWordsWrong)

/-- 'wheelhouselaw11.CanidBack': WHATEVER THE INPUT: true; the input reads as it did. -/
def canidBackSpec : ChangeSpec := { name := "canidBack", fn := fun _ => fun
  | [d1, d2, d3] => { results := [.lit (.bool true)], args := [d1, d2, d3] }
  | _ => none }
def canidBackRow : OpenClaim := { program := "ytdakogmkpcldbaadoor", sum := "faa9a34edeabb359c75a5b8b3e7aca8380a069d1be118c19e142531321dd458e", func := "wheelhouse/wheelhouselaw11.CanidBack", spec := "canidBack", named := ["wheelhouse/canid.rows", "wheelhouse/canid.restricted"], apart := false, laid := [("wheelhouse/canid.rows", laid_wheelhouse_canid_rows), ("wheelhouse/canid.restricted", laid_wheelhouse_canid_restricted)] }
def CanidBackSaid : Prop := canidBackRow.holds Tryd.pinned (OpenSpec.ofChange canidBackSpec)

/-- ITS FALSE NEIGHBOUR: 'it returns false'. Refute it at one input. -/
def canidBackWrong : ChangeSpec := { name := "canidBack", fn := fun _ => fun
  | [d1, d2, d3] => { results := [.lit (.bool false)], args := [d1, d2, d3] }
  | _ => none }
def CanidBackWrongFalsely : Prop := canidBackRow.holds Tryd.pinned (OpenSpec.ofChange canidBackWrong)

/-- 'wheelhouselaw11.CanidJoins': WHATEVER THE INPUT: true; the input reads as it did. -/
def canidJoinsSpec : ChangeSpec := { name := "canidJoins", fn := fun _ => fun
  | [d1, d2, d3] => { results := [.lit (.bool true)], args := [d1, d2, d3] }
  | _ => none }
def canidJoinsRow : OpenClaim := { program := "ytdakogmkpcldbaadoor", sum := "faa9a34edeabb359c75a5b8b3e7aca8380a069d1be118c19e142531321dd458e", func := "wheelhouse/wheelhouselaw11.CanidJoins", spec := "canidJoins", named := ["wheelhouse/canid.rows", "wheelhouse/canid.restricted"], apart := false, laid := [("wheelhouse/canid.rows", laid_wheelhouse_canid_rows), ("wheelhouse/canid.restricted", laid_wheelhouse_canid_restricted)] }
def CanidJoinsSaid : Prop := canidJoinsRow.holds Tryd.pinned (OpenSpec.ofChange canidJoinsSpec)

/-- ITS FALSE NEIGHBOUR: 'it returns false'. Refute it at one input. -/
def canidJoinsWrong : ChangeSpec := { name := "canidJoins", fn := fun _ => fun
  | [d1, d2, d3] => { results := [.lit (.bool false)], args := [d1, d2, d3] }
  | _ => none }
def CanidJoinsWrongFalsely : Prop := canidJoinsRow.holds Tryd.pinned (OpenSpec.ofChange canidJoinsWrong)

/- THE SECOND FORM. 'bulk': how many values and letters a reading holds, each counted each time it is reached (what is shared counts as often as it is met; a slice's spare places count too). A statement '..UptoSaid' is the law's where the arguments, and the package variables that the reading takes, are together of bulk at most 1048576: NARROWER than '..Said'. Prove '..Said' where nothing that the law and all that it calls make is longer than what came in: it says more and counts as full. Else prove '..UptoSaid'. A law counts once. -/
mutual
def uptoBulk {H : Type} : DataW H → Nat
  | .lit (.string bytes) => bytes.length + 1
  | .lit _ => 1
  | .nil => 1
  | .ptr d => uptoBulk d + 1
  | .slice elems spare => uptoBulkAll elems + uptoBulkAll spare + 1
  | .agg parts => uptoBulkAll parts + 1
  | .iface _ d => uptoBulk d + 1
  | .map entries => uptoBulkEntries entries + 1
  | .held _ => 1
def uptoBulkAll {H : Type} : List (DataW H) → Nat
  | [] => 0
  | d :: r => uptoBulk d + uptoBulkAll r
def uptoBulkEntries {H : Type} : List (Lit × DataW H) → Nat
  | [] => 0
  | x :: r => uptoBulkEntry x + uptoBulkEntries r
def uptoBulkEntry {H : Type} : Lit × DataW H → Nat
  | (.string bytes, d) => bytes.length + uptoBulk d + 1
  | (_, d) => uptoBulk d + 1
 end
def uptoSmall : (H : Type) → List (DataW H) → Bool := fun _ ds => decide (uptoBulkAll ds ≤ 1048576)
def OpenSpec.upto (s : _root_.Go.ChangeSpec) : _root_.Go.OpenSpec := { _root_.Go.OpenSpec.ofChange s with cond := some uptoSmall }

/-- 'wheelhouselaw11.CanidNames', WHERE WHAT IT READS IS OF BULK AT MOST 1048576: true; the input reads as it did. -/
def canidNamesUptoRow : OpenClaim := { program := "ytdakogmkpcldbaadoor", sum := "faa9a34edeabb359c75a5b8b3e7aca8380a069d1be118c19e142531321dd458e", func := "wheelhouse/wheelhouselaw11.CanidNames", spec := "canidNames", named := ["wheelhouse/canid.rows", "wheelhouse/canid.restricted"], apart := false, laid := [("wheelhouse/canid.rows", laid_wheelhouse_canid_rows), ("wheelhouse/canid.restricted", laid_wheelhouse_canid_restricted)], narrowed := true }
def CanidNamesUptoSaid : Prop := canidNamesUptoRow.holds Tryd.pinned (OpenSpec.upto canidNamesSpec)

/-- 'wheelhouselaw11.CanidIds', WHERE WHAT IT READS IS OF BULK AT MOST 1048576: true; the input reads as it did. -/
def canidIdsUptoRow : OpenClaim := { program := "ytdakogmkpcldbaadoor", sum := "faa9a34edeabb359c75a5b8b3e7aca8380a069d1be118c19e142531321dd458e", func := "wheelhouse/wheelhouselaw11.CanidIds", spec := "canidIds", named := ["wheelhouse/canid.rows", "wheelhouse/canid.restricted"], apart := false, laid := [("wheelhouse/canid.rows", laid_wheelhouse_canid_rows), ("wheelhouse/canid.restricted", laid_wheelhouse_canid_restricted)], narrowed := true }
def CanidIdsUptoSaid : Prop := canidIdsUptoRow.holds Tryd.pinned (OpenSpec.upto canidIdsSpec)

/-- 'wheelhouselaw11.CanidWords', WHERE WHAT IT READS IS OF BULK AT MOST 1048576: true; the input reads as it did. -/
def canidWordsUptoRow : OpenClaim := { program := "ytdakogmkpcldbaadoor", sum := "faa9a34edeabb359c75a5b8b3e7aca8380a069d1be118c19e142531321dd458e", func := "wheelhouse/wheelhouselaw11.CanidWords", spec := "canidWords", named := ["wheelhouse/canid.rows", "wheelhouse/canid.restricted"], apart := false, laid := [("wheelhouse/canid.rows", laid_wheelhouse_canid_rows), ("wheelhouse/canid.restricted", laid_wheelhouse_canid_restricted)], narrowed := true }
def CanidWordsUptoSaid : Prop := canidWordsUptoRow.holds Tryd.pinned (OpenSpec.upto canidWordsSpec)

/-- 'wheelhouselaw11.CanidBack', WHERE WHAT IT READS IS OF BULK AT MOST 1048576: true; the input reads as it did. -/
def canidBackUptoRow : OpenClaim := { program := "ytdakogmkpcldbaadoor", sum := "faa9a34edeabb359c75a5b8b3e7aca8380a069d1be118c19e142531321dd458e", func := "wheelhouse/wheelhouselaw11.CanidBack", spec := "canidBack", named := ["wheelhouse/canid.rows", "wheelhouse/canid.restricted"], apart := false, laid := [("wheelhouse/canid.rows", laid_wheelhouse_canid_rows), ("wheelhouse/canid.restricted", laid_wheelhouse_canid_restricted)], narrowed := true }
def CanidBackUptoSaid : Prop := canidBackUptoRow.holds Tryd.pinned (OpenSpec.upto canidBackSpec)

/-- 'wheelhouselaw11.CanidJoins', WHERE WHAT IT READS IS OF BULK AT MOST 1048576: true; the input reads as it did. -/
def canidJoinsUptoRow : OpenClaim := { program := "ytdakogmkpcldbaadoor", sum := "faa9a34edeabb359c75a5b8b3e7aca8380a069d1be118c19e142531321dd458e", func := "wheelhouse/wheelhouselaw11.CanidJoins", spec := "canidJoins", named := ["wheelhouse/canid.rows", "wheelhouse/canid.restricted"], apart := false, laid := [("wheelhouse/canid.rows", laid_wheelhouse_canid_rows), ("wheelhouse/canid.restricted", laid_wheelhouse_canid_restricted)], narrowed := true }
def CanidJoinsUptoSaid : Prop := canidJoinsUptoRow.holds Tryd.pinned (OpenSpec.upto canidJoinsSpec)

end Rows
end Go.Proofs.YtdakogmkpcldbaaDoor
