/-
  NARROWER THAN 'FOR EVERY INPUT', by the rows' own cells (each row's printed sentence says how): DictPlays: laid · DictEntries: laid · DictSets: laid · DictValues: laid · DictNil: laid.
  DERIVED. THE GIVEN ROWS OF THIS SEAT. 5 by the template 'for every input the law returns true; each argument reads behind the call as it read before'; 0 by the template 'total and deterministic' (their statements: YtcbffoablononaaDoorTotals.lean).
  GIVEN WITH THE SEED: the statements are not yours to turn. If you find one false, say at which input.
  Laid BY PROGRAM, IN A SANDBOX (cutbox-rows.mjs): the forced cells as the released guide's own fill.sh prints them over the translation bfb2e0cecf9b82e7… (all of the seat's roots in one cut). By AI agents, Wed Nov 11 2026. No macro, syntax, notation, axiom, sorry.
-/
import Derived.Test.YtcbffoablononaaDoorChecked
import GoSem.Claim
import GoSem.ClaimJoined
import GoSem.ClaimMapViews
import Derived.JoinedTies
import Derived.KernelRfl
namespace Go.Proofs.YtcbffoablononaaDoor
/- THE CELL 'sum', in the pinned program and in every row, IS THE sha256 OF THE DUMP (.gsa) THAT YtcbffoablononaaDoorProg.lean LOADS. Nothing in Lean hashes anything: it is a label: what it is worth is what the hold of that sum in a sandbox is worth. -/
noncomputable def Tryd.pinned : Pinned := { name := "ytcbffoablononaadoor", sum := "bfb2e0cecf9b82e75947228f47868c5a6287ae5994ee500cc1c269c225347fd3", checked := Tryd.checked }
namespace Rows
def none {H : Type} : Left H := { results := [], args := [] }

/- WHAT THE LISTED PACKAGE-LEVEL VARIABLES READ AS WHEN THE CALL BEGINS. Each datum BY PROGRAM (the guide's laid-datum.mjs) off the statement by which the dump's own 'gosem.cut.vars' lays the variable. In a bare row this is a premise. The card (YtcbffoablononaaDoorCards.lean) ties it to the program's text. -/
def laid_wheelhouse_types_kinds {H : Type} : DataW H := .agg [.agg [.lit (.string []), .lit (.int .i64 0), .lit (.int .i64 0), .lit (.int .i64 0), .lit (.int .i64 0)], .agg [.lit (.string [98, 111, 111, 108]), .lit (.int .i64 1), .lit (.int .i64 1), .lit (.int .i64 0), .lit (.int .i64 1)], .agg [.lit (.string [105, 56]), .lit (.int .i64 1), .lit (.int .i64 8), .lit (.int .i64 (-128)), .lit (.int .i64 127)], .agg [.lit (.string [105, 49, 54]), .lit (.int .i64 2), .lit (.int .i64 16), .lit (.int .i64 (-32768)), .lit (.int .i64 32767)], .agg [.lit (.string [105, 51, 50]), .lit (.int .i64 4), .lit (.int .i64 32), .lit (.int .i64 (-2147483648)), .lit (.int .i64 2147483647)], .agg [.lit (.string [117, 56]), .lit (.int .i64 1), .lit (.int .i64 8), .lit (.int .i64 0), .lit (.int .i64 255)], .agg [.lit (.string [117, 49, 54]), .lit (.int .i64 2), .lit (.int .i64 16), .lit (.int .i64 0), .lit (.int .i64 65535)], .agg [.lit (.string [117, 51, 50]), .lit (.int .i64 4), .lit (.int .i64 32), .lit (.int .i64 0), .lit (.int .i64 4294967295)], .agg [.lit (.string []), .lit (.int .i64 0), .lit (.int .i64 0), .lit (.int .i64 0), .lit (.int .i64 0)], .agg [.lit (.string [116, 101, 120, 116]), .lit (.int .i64 0), .lit (.int .i64 0), .lit (.int .i64 0), .lit (.int .i64 0)], .agg [.lit (.string [98, 121, 116, 101, 115]), .lit (.int .i64 0), .lit (.int .i64 0), .lit (.int .i64 0), .lit (.int .i64 0)], .agg [.lit (.string []), .lit (.int .i64 0), .lit (.int .i64 0), .lit (.int .i64 0), .lit (.int .i64 0)], .agg [.lit (.string []), .lit (.int .i64 0), .lit (.int .i64 0), .lit (.int .i64 0), .lit (.int .i64 0)], .agg [.lit (.string []), .lit (.int .i64 0), .lit (.int .i64 0), .lit (.int .i64 0), .lit (.int .i64 0)], .agg [.lit (.string []), .lit (.int .i64 0), .lit (.int .i64 0), .lit (.int .i64 0), .lit (.int .i64 0)], .agg [.lit (.string [100, 111, 109, 97, 105, 110]), .lit (.int .i64 0), .lit (.int .i64 0), .lit (.int .i64 0), .lit (.int .i64 0)], .agg [.lit (.string []), .lit (.int .i64 0), .lit (.int .i64 0), .lit (.int .i64 0), .lit (.int .i64 0)], .agg [.lit (.string []), .lit (.int .i64 0), .lit (.int .i64 0), .lit (.int .i64 0), .lit (.int .i64 0)], .agg [.lit (.string []), .lit (.int .i64 0), .lit (.int .i64 0), .lit (.int .i64 0), .lit (.int .i64 0)], .agg [.lit (.string []), .lit (.int .i64 0), .lit (.int .i64 0), .lit (.int .i64 0), .lit (.int .i64 0)], .agg [.lit (.string []), .lit (.int .i64 0), .lit (.int .i64 0), .lit (.int .i64 0), .lit (.int .i64 0)], .agg [.lit (.string [105, 54, 52]), .lit (.int .i64 8), .lit (.int .i64 64), .lit (.int .i64 (-9223372036854775808)), .lit (.int .i64 9223372036854775807)]]

/-- 'wheelhouselaw15.DictPlays': WHATEVER THE INPUT: true; the input reads as it did. -/
def dictPlaysSpec : ChangeSpec := { name := "dictPlays", fn := fun _ => fun
  | [d1, d2] => { results := [.lit (.bool true)], args := [d1, d2] }
  | _ => none }
def dictPlaysRow : OpenClaim := { program := "ytcbffoablononaadoor", sum := "bfb2e0cecf9b82e75947228f47868c5a6287ae5994ee500cc1c269c225347fd3", func := "wheelhouse/wheelhouselaw15.DictPlays", spec := "dictPlays", unfollowed := true, recurses := true, named := ["wheelhouse/types.kinds"], apart := false, laid := [("wheelhouse/types.kinds", laid_wheelhouse_types_kinds)] }
def DictPlaysSaid : Prop := dictPlaysRow.holds Tryd.pinned (OpenSpec.ofChange dictPlaysSpec)

/-- ITS FALSE NEIGHBOUR: 'it returns false'. Refute it at one input. -/
def dictPlaysWrong : ChangeSpec := { name := "dictPlays", fn := fun _ => fun
  | [d1, d2] => { results := [.lit (.bool false)], args := [d1, d2] }
  | _ => none }
def DictPlaysWrongFalsely : Prop := dictPlaysRow.holds Tryd.pinned (OpenSpec.ofChange dictPlaysWrong)

/-- 'wheelhouselaw15.DictEntries': WHATEVER THE INPUT: true; the input reads as it did. -/
def dictEntriesSpec : ChangeSpec := { name := "dictEntries", fn := fun _ => fun
  | [d1, d2] => { results := [.lit (.bool true)], args := [d1, d2] }
  | _ => none }
def dictEntriesRow : OpenClaim := { program := "ytcbffoablononaadoor", sum := "bfb2e0cecf9b82e75947228f47868c5a6287ae5994ee500cc1c269c225347fd3", func := "wheelhouse/wheelhouselaw15.DictEntries", spec := "dictEntries", unfollowed := true, recurses := true, named := ["wheelhouse/types.kinds"], apart := false, laid := [("wheelhouse/types.kinds", laid_wheelhouse_types_kinds)] }
def DictEntriesSaid : Prop := dictEntriesRow.holds Tryd.pinned (OpenSpec.ofChange dictEntriesSpec)

/-- ITS FALSE NEIGHBOUR: 'it returns false'. Refute it at one input. -/
def dictEntriesWrong : ChangeSpec := { name := "dictEntries", fn := fun _ => fun
  | [d1, d2] => { results := [.lit (.bool false)], args := [d1, d2] }
  | _ => none }
def DictEntriesWrongFalsely : Prop := dictEntriesRow.holds Tryd.pinned (OpenSpec.ofChange dictEntriesWrong)

/-- 'wheelhouselaw15.DictSets': WHATEVER THE INPUT: true; the input reads as it did. -/
def dictSetsSpec : ChangeSpec := { name := "dictSets", fn := fun _ => fun
  | [d1, d2] => { results := [.lit (.bool true)], args := [d1, d2] }
  | _ => none }
def dictSetsRow : OpenClaim := { program := "ytcbffoablononaadoor", sum := "bfb2e0cecf9b82e75947228f47868c5a6287ae5994ee500cc1c269c225347fd3", func := "wheelhouse/wheelhouselaw15.DictSets", spec := "dictSets", unfollowed := true, recurses := true, named := ["wheelhouse/types.kinds"], apart := false, laid := [("wheelhouse/types.kinds", laid_wheelhouse_types_kinds)] }
def DictSetsSaid : Prop := dictSetsRow.holds Tryd.pinned (OpenSpec.ofChange dictSetsSpec)

/-- ITS FALSE NEIGHBOUR: 'it returns false'. Refute it at one input. -/
def dictSetsWrong : ChangeSpec := { name := "dictSets", fn := fun _ => fun
  | [d1, d2] => { results := [.lit (.bool false)], args := [d1, d2] }
  | _ => none }
def DictSetsWrongFalsely : Prop := dictSetsRow.holds Tryd.pinned (OpenSpec.ofChange dictSetsWrong)

/-- 'wheelhouselaw15.DictValues': WHATEVER THE INPUT: true; the input reads as it did. -/
def dictValuesSpec : ChangeSpec := { name := "dictValues", fn := fun _ => fun
  | [d1, d2] => { results := [.lit (.bool true)], args := [d1, d2] }
  | _ => none }
def dictValuesRow : OpenClaim := { program := "ytcbffoablononaadoor", sum := "bfb2e0cecf9b82e75947228f47868c5a6287ae5994ee500cc1c269c225347fd3", func := "wheelhouse/wheelhouselaw15.DictValues", spec := "dictValues", unfollowed := true, recurses := true, named := ["wheelhouse/types.kinds"], apart := false, laid := [("wheelhouse/types.kinds", laid_wheelhouse_types_kinds)] }
def DictValuesSaid : Prop := dictValuesRow.holds Tryd.pinned (OpenSpec.ofChange dictValuesSpec)

/-- ITS FALSE NEIGHBOUR: 'it returns false'. Refute it at one input. -/
def dictValuesWrong : ChangeSpec := { name := "dictValues", fn := fun _ => fun
  | [d1, d2] => { results := [.lit (.bool false)], args := [d1, d2] }
  | _ => none }
def DictValuesWrongFalsely : Prop := dictValuesRow.holds Tryd.pinned (OpenSpec.ofChange dictValuesWrong)

/-- 'wheelhouselaw15.DictNil': WHATEVER THE INPUT: true; the input reads as it did. -/
def dictNilSpec : ChangeSpec := { name := "dictNil", fn := fun _ => fun
  | [d1, d2, d3] => { results := [.lit (.bool true)], args := [d1, d2, d3] }
  | _ => none }
def dictNilRow : OpenClaim := { program := "ytcbffoablononaadoor", sum := "bfb2e0cecf9b82e75947228f47868c5a6287ae5994ee500cc1c269c225347fd3", func := "wheelhouse/wheelhouselaw15.DictNil", spec := "dictNil", unfollowed := true, recurses := true, named := ["wheelhouse/types.kinds"], apart := false, laid := [("wheelhouse/types.kinds", laid_wheelhouse_types_kinds)] }
def DictNilSaid : Prop := dictNilRow.holds Tryd.pinned (OpenSpec.ofChange dictNilSpec)

/-- ITS FALSE NEIGHBOUR: 'it returns false'. Refute it at one input. -/
def dictNilWrong : ChangeSpec := { name := "dictNil", fn := fun _ => fun
  | [d1, d2, d3] => { results := [.lit (.bool false)], args := [d1, d2, d3] }
  | _ => none }
def DictNilWrongFalsely : Prop := dictNilRow.holds Tryd.pinned (OpenSpec.ofChange dictNilWrong)

/- THE SECOND FORM. 'bulk': how many values and letters a reading holds, each counted each time it is reached (what is shared counts as often as it is met; a slice's spare places count too). A statement '..UptoSaid' is the law's where the arguments, and the package variables that the reading takes, are together of bulk at most 1048576: NARROWER than '..Said'. Prove '..Said' where nothing that the law and all that it calls make is longer than what came in: it says more and counts as full. Else prove '..UptoSaid'. A law counts once. -/
mutual
def uptoBulk {H : Type} : DataW H → Nat
  | .lit (.string bytes) => bytes.length + 1
  | .lit _ => 1
  | .nil => 1
  | .ptr d => uptoBulk d + 1
  | .slice elems spare => uptoBulkAll elems + uptoBulkAll spare + 1
  | .agg parts => uptoBulkAll parts + 1
  | .iface _ d => uptoBulk d + 1
  | .map entries => uptoBulkEntries entries + 1
  | .held _ => 1
def uptoBulkAll {H : Type} : List (DataW H) → Nat
  | [] => 0
  | d :: r => uptoBulk d + uptoBulkAll r
def uptoBulkEntries {H : Type} : List (Lit × DataW H) → Nat
  | [] => 0
  | x :: r => uptoBulkEntry x + uptoBulkEntries r
def uptoBulkEntry {H : Type} : Lit × DataW H → Nat
  | (.string bytes, d) => bytes.length + uptoBulk d + 1
  | (_, d) => uptoBulk d + 1
 end
def uptoSmall : (H : Type) → List (DataW H) → Bool := fun _ ds => decide (uptoBulkAll ds ≤ 1048576)
def OpenSpec.upto (s : _root_.Go.ChangeSpec) : _root_.Go.OpenSpec := { _root_.Go.OpenSpec.ofChange s with cond := some uptoSmall }

/-- 'wheelhouselaw15.DictPlays', WHERE WHAT IT READS IS OF BULK AT MOST 1048576: true; the input reads as it did. -/
def dictPlaysUptoRow : OpenClaim := { program := "ytcbffoablononaadoor", sum := "bfb2e0cecf9b82e75947228f47868c5a6287ae5994ee500cc1c269c225347fd3", func := "wheelhouse/wheelhouselaw15.DictPlays", spec := "dictPlays", unfollowed := true, recurses := true, named := ["wheelhouse/types.kinds"], apart := false, laid := [("wheelhouse/types.kinds", laid_wheelhouse_types_kinds)], narrowed := true }
def DictPlaysUptoSaid : Prop := dictPlaysUptoRow.holds Tryd.pinned (OpenSpec.upto dictPlaysSpec)

/-- 'wheelhouselaw15.DictEntries', WHERE WHAT IT READS IS OF BULK AT MOST 1048576: true; the input reads as it did. -/
def dictEntriesUptoRow : OpenClaim := { program := "ytcbffoablononaadoor", sum := "bfb2e0cecf9b82e75947228f47868c5a6287ae5994ee500cc1c269c225347fd3", func := "wheelhouse/wheelhouselaw15.DictEntries", spec := "dictEntries", unfollowed := true, recurses := true, named := ["wheelhouse/types.kinds"], apart := false, laid := [("wheelhouse/types.kinds", laid_wheelhouse_types_kinds)], narrowed := true }
def DictEntriesUptoSaid : Prop := dictEntriesUptoRow.holds Tryd.pinned (OpenSpec.upto dictEntriesSpec)

/-- 'wheelhouselaw15.DictSets', WHERE WHAT IT READS IS OF BULK AT MOST 1048576: true; the input reads as it did. -/
def dictSetsUptoRow : OpenClaim := { program := "ytcbffoablononaadoor", sum := "bfb2e0cecf9b82e75947228f47868c5a6287ae5994ee500cc1c269c225347fd3", func := "wheelhouse/wheelhouselaw15.DictSets", spec := "dictSets", unfollowed := true, recurses := true, named := ["wheelhouse/types.kinds"], apart := false, laid := [("wheelhouse/types.kinds", laid_wheelhouse_types_kinds)], narrowed := true }
def DictSetsUptoSaid : Prop := dictSetsUptoRow.holds Tryd.pinned (OpenSpec.upto dictSetsSpec)

/-- 'wheelhouselaw15.DictValues', WHERE WHAT IT READS IS OF BULK AT MOST 1048576: true; the input reads as it did. -/
def dictValuesUptoRow : OpenClaim := { program := "ytcbffoablononaadoor", sum := "bfb2e0cecf9b82e75947228f47868c5a6287ae5994ee500cc1c269c225347fd3", func := "wheelhouse/wheelhouselaw15.DictValues", spec := "dictValues", unfollowed := true, recurses := true, named := ["wheelhouse/types.kinds"], apart := false, laid := [("wheelhouse/types.kinds", laid_wheelhouse_types_kinds)], narrowed := true }
def DictValuesUptoSaid : Prop := dictValuesUptoRow.holds Tryd.pinned (OpenSpec.upto dictValuesSpec)

/-- 'wheelhouselaw15.DictNil', WHERE WHAT IT READS IS OF BULK AT MOST 1048576: true; the input reads as it did. -/
def dictNilUptoRow : OpenClaim := { program := "ytcbffoablononaadoor", sum := "bfb2e0cecf9b82e75947228f47868c5a6287ae5994ee500cc1c269c225347fd3", func := "wheelhouse/wheelhouselaw15.DictNil", spec := "dictNil", unfollowed := true, recurses := true, named := ["wheelhouse/types.kinds"], apart := false, laid := [("wheelhouse/types.kinds", laid_wheelhouse_types_kinds)], narrowed := true }
def DictNilUptoSaid : Prop := dictNilUptoRow.holds Tryd.pinned (OpenSpec.upto dictNilSpec)

end Rows
end Go.Proofs.YtcbffoablononaaDoor
