/-
  NARROWER THAN 'FOR EVERY INPUT', by the rows' own cells (each row's printed sentence says how): EntryRights: laid · EntryRules: laid · EntryValues: laid · EntryNumbers: laid · EntryOrder: laid.
  DERIVED. THE GIVEN ROWS OF THIS SEAT. 5 by the template 'for every input the law returns true; each argument reads behind the call as it read before'; 0 by the template 'total and deterministic' (their statements: YtedcjfgilpgpkaaDoorTotals.lean).
  GIVEN WITH THE SEED: the statements are not yours to turn. If you find one false, say at which input.
  Laid BY PROGRAM, IN A SANDBOX (cutbox-rows.mjs): the forced cells as the released guide's own fill.sh prints them over the translation 07b11f75e1ae8c0c… (all of the seat's roots in one cut). By AI agents, Wed Nov 11 2026. No macro, syntax, notation, axiom, sorry.
-/
import Derived.Test.YtedcjfgilpgpkaaDoorChecked
import GoSem.Claim
import GoSem.ClaimJoined
import GoSem.ClaimMapViews
import Derived.JoinedTies
import Derived.KernelRfl
namespace Go.Proofs.YtedcjfgilpgpkaaDoor
/- THE CELL 'sum', in the pinned program and in every row, IS THE sha256 OF THE DUMP (.gsa) THAT YtedcjfgilpgpkaaDoorProg.lean LOADS. Nothing in Lean hashes anything: it is a label: what it is worth is what the hold of that sum in a sandbox is worth. -/
noncomputable def Tryd.pinned : Pinned := { name := "ytedcjfgilpgpkaadoor", sum := "07b11f75e1ae8c0c9d372b5de9a62e3ba003a2c1c215815fb47ea64271eb1abd", checked := Tryd.checked }
namespace Rows
def none {H : Type} : Left H := { results := [], args := [] }

/- WHAT THE LISTED PACKAGE-LEVEL VARIABLES READ AS WHEN THE CALL BEGINS. Each datum BY PROGRAM (the guide's laid-datum.mjs) off the statement by which the dump's own 'gosem.cut.vars' lays the variable. In a bare row this is a premise. The card (YtedcjfgilpgpkaaDoorCards.lean) ties it to the program's text. -/
def laid_wheelhouse_types_kinds {H : Type} : DataW H := .agg [.agg [.lit (.string []), .lit (.int .i64 0), .lit (.int .i64 0), .lit (.int .i64 0), .lit (.int .i64 0)], .agg [.lit (.string [98, 111, 111, 108]), .lit (.int .i64 1), .lit (.int .i64 1), .lit (.int .i64 0), .lit (.int .i64 1)], .agg [.lit (.string [105, 56]), .lit (.int .i64 1), .lit (.int .i64 8), .lit (.int .i64 (-128)), .lit (.int .i64 127)], .agg [.lit (.string [105, 49, 54]), .lit (.int .i64 2), .lit (.int .i64 16), .lit (.int .i64 (-32768)), .lit (.int .i64 32767)], .agg [.lit (.string [105, 51, 50]), .lit (.int .i64 4), .lit (.int .i64 32), .lit (.int .i64 (-2147483648)), .lit (.int .i64 2147483647)], .agg [.lit (.string [117, 56]), .lit (.int .i64 1), .lit (.int .i64 8), .lit (.int .i64 0), .lit (.int .i64 255)], .agg [.lit (.string [117, 49, 54]), .lit (.int .i64 2), .lit (.int .i64 16), .lit (.int .i64 0), .lit (.int .i64 65535)], .agg [.lit (.string [117, 51, 50]), .lit (.int .i64 4), .lit (.int .i64 32), .lit (.int .i64 0), .lit (.int .i64 4294967295)], .agg [.lit (.string []), .lit (.int .i64 0), .lit (.int .i64 0), .lit (.int .i64 0), .lit (.int .i64 0)], .agg [.lit (.string [116, 101, 120, 116]), .lit (.int .i64 0), .lit (.int .i64 0), .lit (.int .i64 0), .lit (.int .i64 0)], .agg [.lit (.string [98, 121, 116, 101, 115]), .lit (.int .i64 0), .lit (.int .i64 0), .lit (.int .i64 0), .lit (.int .i64 0)], .agg [.lit (.string []), .lit (.int .i64 0), .lit (.int .i64 0), .lit (.int .i64 0), .lit (.int .i64 0)], .agg [.lit (.string []), .lit (.int .i64 0), .lit (.int .i64 0), .lit (.int .i64 0), .lit (.int .i64 0)], .agg [.lit (.string []), .lit (.int .i64 0), .lit (.int .i64 0), .lit (.int .i64 0), .lit (.int .i64 0)], .agg [.lit (.string []), .lit (.int .i64 0), .lit (.int .i64 0), .lit (.int .i64 0), .lit (.int .i64 0)], .agg [.lit (.string [100, 111, 109, 97, 105, 110]), .lit (.int .i64 0), .lit (.int .i64 0), .lit (.int .i64 0), .lit (.int .i64 0)], .agg [.lit (.string []), .lit (.int .i64 0), .lit (.int .i64 0), .lit (.int .i64 0), .lit (.int .i64 0)], .agg [.lit (.string []), .lit (.int .i64 0), .lit (.int .i64 0), .lit (.int .i64 0), .lit (.int .i64 0)], .agg [.lit (.string []), .lit (.int .i64 0), .lit (.int .i64 0), .lit (.int .i64 0), .lit (.int .i64 0)], .agg [.lit (.string []), .lit (.int .i64 0), .lit (.int .i64 0), .lit (.int .i64 0), .lit (.int .i64 0)], .agg [.lit (.string []), .lit (.int .i64 0), .lit (.int .i64 0), .lit (.int .i64 0), .lit (.int .i64 0)], .agg [.lit (.string [105, 54, 52]), .lit (.int .i64 8), .lit (.int .i64 64), .lit (.int .i64 (-9223372036854775808)), .lit (.int .i64 9223372036854775807)]]

/-- 'wheelhouselaw14.EntryRights': WHATEVER THE INPUT: true; the input reads as it did. -/
def entryRightsSpec : ChangeSpec := { name := "entryRights", fn := fun _ => fun
  | [d1, d2] => { results := [.lit (.bool true)], args := [d1, d2] }
  | _ => none }
def entryRightsRow : OpenClaim := { program := "ytedcjfgilpgpkaadoor", sum := "07b11f75e1ae8c0c9d372b5de9a62e3ba003a2c1c215815fb47ea64271eb1abd", func := "wheelhouse/wheelhouselaw14.EntryRights", spec := "entryRights", named := ["wheelhouse/types.kinds"], apart := false, laid := [("wheelhouse/types.kinds", laid_wheelhouse_types_kinds)] }
def EntryRightsSaid : Prop := entryRightsRow.holds Tryd.pinned (OpenSpec.ofChange entryRightsSpec)

/-- ITS FALSE NEIGHBOUR: 'it returns false'. Refute it at one input. -/
def entryRightsWrong : ChangeSpec := { name := "entryRights", fn := fun _ => fun
  | [d1, d2] => { results := [.lit (.bool false)], args := [d1, d2] }
  | _ => none }
def EntryRightsWrongFalsely : Prop := entryRightsRow.holds Tryd.pinned (OpenSpec.ofChange entryRightsWrong)

/-- 'wheelhouselaw14.EntryRules': WHATEVER THE INPUT: true; the input reads as it did. -/
def entryRulesSpec : ChangeSpec := { name := "entryRules", fn := fun _ => fun
  | [d1, d2] => { results := [.lit (.bool true)], args := [d1, d2] }
  | _ => none }
def entryRulesRow : OpenClaim := { program := "ytedcjfgilpgpkaadoor", sum := "07b11f75e1ae8c0c9d372b5de9a62e3ba003a2c1c215815fb47ea64271eb1abd", func := "wheelhouse/wheelhouselaw14.EntryRules", spec := "entryRules", named := ["wheelhouse/types.kinds"], apart := false, laid := [("wheelhouse/types.kinds", laid_wheelhouse_types_kinds)] }
def EntryRulesSaid : Prop := entryRulesRow.holds Tryd.pinned (OpenSpec.ofChange entryRulesSpec)

/-- ITS FALSE NEIGHBOUR: 'it returns false'. Refute it at one input. -/
def entryRulesWrong : ChangeSpec := { name := "entryRules", fn := fun _ => fun
  | [d1, d2] => { results := [.lit (.bool false)], args := [d1, d2] }
  | _ => none }
def EntryRulesWrongFalsely : Prop := entryRulesRow.holds Tryd.pinned (OpenSpec.ofChange entryRulesWrong)

/-- 'wheelhouselaw14.EntryValues': WHATEVER THE INPUT: true; the input reads as it did. -/
def entryValuesSpec : ChangeSpec := { name := "entryValues", fn := fun _ => fun
  | [d1, d2] => { results := [.lit (.bool true)], args := [d1, d2] }
  | _ => none }
def entryValuesRow : OpenClaim := { program := "ytedcjfgilpgpkaadoor", sum := "07b11f75e1ae8c0c9d372b5de9a62e3ba003a2c1c215815fb47ea64271eb1abd", func := "wheelhouse/wheelhouselaw14.EntryValues", spec := "entryValues", named := ["wheelhouse/types.kinds"], apart := false, laid := [("wheelhouse/types.kinds", laid_wheelhouse_types_kinds)] }
def EntryValuesSaid : Prop := entryValuesRow.holds Tryd.pinned (OpenSpec.ofChange entryValuesSpec)

/-- ITS FALSE NEIGHBOUR: 'it returns false'. Refute it at one input. -/
def entryValuesWrong : ChangeSpec := { name := "entryValues", fn := fun _ => fun
  | [d1, d2] => { results := [.lit (.bool false)], args := [d1, d2] }
  | _ => none }
def EntryValuesWrongFalsely : Prop := entryValuesRow.holds Tryd.pinned (OpenSpec.ofChange entryValuesWrong)

/-- 'wheelhouselaw14.EntryNumbers': WHATEVER THE INPUT: true; the input reads as it did. -/
def entryNumbersSpec : ChangeSpec := { name := "entryNumbers", fn := fun _ => fun
  | [d1, d2, d3] => { results := [.lit (.bool true)], args := [d1, d2, d3] }
  | _ => none }
def entryNumbersRow : OpenClaim := { program := "ytedcjfgilpgpkaadoor", sum := "07b11f75e1ae8c0c9d372b5de9a62e3ba003a2c1c215815fb47ea64271eb1abd", func := "wheelhouse/wheelhouselaw14.EntryNumbers", spec := "entryNumbers", named := ["wheelhouse/types.kinds"], apart := false, laid := [("wheelhouse/types.kinds", laid_wheelhouse_types_kinds)] }
def EntryNumbersSaid : Prop := entryNumbersRow.holds Tryd.pinned (OpenSpec.ofChange entryNumbersSpec)

/-- ITS FALSE NEIGHBOUR: 'it returns false'. Refute it at one input. -/
def entryNumbersWrong : ChangeSpec := { name := "entryNumbers", fn := fun _ => fun
  | [d1, d2, d3] => { results := [.lit (.bool false)], args := [d1, d2, d3] }
  | _ => none }
def EntryNumbersWrongFalsely : Prop := entryNumbersRow.holds Tryd.pinned (OpenSpec.ofChange entryNumbersWrong)

/-- 'wheelhouselaw14.EntryOrder': WHATEVER THE INPUT: true; the input reads as it did. -/
def entryOrderSpec : ChangeSpec := { name := "entryOrder", fn := fun _ => fun
  | [d1, d2] => { results := [.lit (.bool true)], args := [d1, d2] }
  | _ => none }
def entryOrderRow : OpenClaim := { program := "ytedcjfgilpgpkaadoor", sum := "07b11f75e1ae8c0c9d372b5de9a62e3ba003a2c1c215815fb47ea64271eb1abd", func := "wheelhouse/wheelhouselaw14.EntryOrder", spec := "entryOrder", named := ["wheelhouse/types.kinds"], apart := false, laid := [("wheelhouse/types.kinds", laid_wheelhouse_types_kinds)] }
def EntryOrderSaid : Prop := entryOrderRow.holds Tryd.pinned (OpenSpec.ofChange entryOrderSpec)

/-- ITS FALSE NEIGHBOUR: 'it returns false'. Refute it at one input. -/
def entryOrderWrong : ChangeSpec := { name := "entryOrder", fn := fun _ => fun
  | [d1, d2] => { results := [.lit (.bool false)], args := [d1, d2] }
  | _ => none }
def EntryOrderWrongFalsely : Prop := entryOrderRow.holds Tryd.pinned (OpenSpec.ofChange entryOrderWrong)

/- THE SECOND FORM. 'bulk': how many values and letters a reading holds, each counted each time it is reached (what is shared counts as often as it is met; a slice's spare places count too). A statement '..UptoSaid' is the law's where the arguments, and the package variables that the reading takes, are together of bulk at most 1048576: NARROWER than '..Said'. Prove '..Said' where nothing that the law and all that it calls make is longer than what came in: it says more and counts as full. Else prove '..UptoSaid'. A law counts once. -/
mutual
def uptoBulk {H : Type} : DataW H → Nat
  | .lit (.string bytes) => bytes.length + 1
  | .lit _ => 1
  | .nil => 1
  | .ptr d => uptoBulk d + 1
  | .slice elems spare => uptoBulkAll elems + uptoBulkAll spare + 1
  | .agg parts => uptoBulkAll parts + 1
  | .iface _ d => uptoBulk d + 1
  | .map entries => uptoBulkEntries entries + 1
  | .held _ => 1
def uptoBulkAll {H : Type} : List (DataW H) → Nat
  | [] => 0
  | d :: r => uptoBulk d + uptoBulkAll r
def uptoBulkEntries {H : Type} : List (Lit × DataW H) → Nat
  | [] => 0
  | x :: r => uptoBulkEntry x + uptoBulkEntries r
def uptoBulkEntry {H : Type} : Lit × DataW H → Nat
  | (.string bytes, d) => bytes.length + uptoBulk d + 1
  | (_, d) => uptoBulk d + 1
 end
def uptoSmall : (H : Type) → List (DataW H) → Bool := fun _ ds => decide (uptoBulkAll ds ≤ 1048576)
def OpenSpec.upto (s : _root_.Go.ChangeSpec) : _root_.Go.OpenSpec := { _root_.Go.OpenSpec.ofChange s with cond := some uptoSmall }

/-- 'wheelhouselaw14.EntryRights', WHERE WHAT IT READS IS OF BULK AT MOST 1048576: true; the input reads as it did. -/
def entryRightsUptoRow : OpenClaim := { program := "ytedcjfgilpgpkaadoor", sum := "07b11f75e1ae8c0c9d372b5de9a62e3ba003a2c1c215815fb47ea64271eb1abd", func := "wheelhouse/wheelhouselaw14.EntryRights", spec := "entryRights", named := ["wheelhouse/types.kinds"], apart := false, laid := [("wheelhouse/types.kinds", laid_wheelhouse_types_kinds)], narrowed := true }
def EntryRightsUptoSaid : Prop := entryRightsUptoRow.holds Tryd.pinned (OpenSpec.upto entryRightsSpec)

/-- 'wheelhouselaw14.EntryRules', WHERE WHAT IT READS IS OF BULK AT MOST 1048576: true; the input reads as it did. -/
def entryRulesUptoRow : OpenClaim := { program := "ytedcjfgilpgpkaadoor", sum := "07b11f75e1ae8c0c9d372b5de9a62e3ba003a2c1c215815fb47ea64271eb1abd", func := "wheelhouse/wheelhouselaw14.EntryRules", spec := "entryRules", named := ["wheelhouse/types.kinds"], apart := false, laid := [("wheelhouse/types.kinds", laid_wheelhouse_types_kinds)], narrowed := true }
def EntryRulesUptoSaid : Prop := entryRulesUptoRow.holds Tryd.pinned (OpenSpec.upto entryRulesSpec)

/-- 'wheelhouselaw14.EntryValues', WHERE WHAT IT READS IS OF BULK AT MOST 1048576: true; the input reads as it did. -/
def entryValuesUptoRow : OpenClaim := { program := "ytedcjfgilpgpkaadoor", sum := "07b11f75e1ae8c0c9d372b5de9a62e3ba003a2c1c215815fb47ea64271eb1abd", func := "wheelhouse/wheelhouselaw14.EntryValues", spec := "entryValues", named := ["wheelhouse/types.kinds"], apart := false, laid := [("wheelhouse/types.kinds", laid_wheelhouse_types_kinds)], narrowed := true }
def EntryValuesUptoSaid : Prop := entryValuesUptoRow.holds Tryd.pinned (OpenSpec.upto entryValuesSpec)

/-- 'wheelhouselaw14.EntryNumbers', WHERE WHAT IT READS IS OF BULK AT MOST 1048576: true; the input reads as it did. -/
def entryNumbersUptoRow : OpenClaim := { program := "ytedcjfgilpgpkaadoor", sum := "07b11f75e1ae8c0c9d372b5de9a62e3ba003a2c1c215815fb47ea64271eb1abd", func := "wheelhouse/wheelhouselaw14.EntryNumbers", spec := "entryNumbers", named := ["wheelhouse/types.kinds"], apart := false, laid := [("wheelhouse/types.kinds", laid_wheelhouse_types_kinds)], narrowed := true }
def EntryNumbersUptoSaid : Prop := entryNumbersUptoRow.holds Tryd.pinned (OpenSpec.upto entryNumbersSpec)

/-- 'wheelhouselaw14.EntryOrder', WHERE WHAT IT READS IS OF BULK AT MOST 1048576: true; the input reads as it did. -/
def entryOrderUptoRow : OpenClaim := { program := "ytedcjfgilpgpkaadoor", sum := "07b11f75e1ae8c0c9d372b5de9a62e3ba003a2c1c215815fb47ea64271eb1abd", func := "wheelhouse/wheelhouselaw14.EntryOrder", spec := "entryOrder", named := ["wheelhouse/types.kinds"], apart := false, laid := [("wheelhouse/types.kinds", laid_wheelhouse_types_kinds)], narrowed := true }
def EntryOrderUptoSaid : Prop := entryOrderUptoRow.holds Tryd.pinned (OpenSpec.upto entryOrderSpec)

end Rows
end Go.Proofs.YtedcjfgilpgpkaaDoor
