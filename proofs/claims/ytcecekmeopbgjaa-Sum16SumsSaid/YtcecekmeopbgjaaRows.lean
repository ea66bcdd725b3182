/-
  No cell of these rows narrows 'for every input' (looked for: loops, veiled, ifaces, maps, wideKeys, modest, calm, conditions, laid).
  DERIVED. THE GIVEN ROWS OF THIS SEAT. 4 by the template 'for every input the law returns true; each argument reads behind the call as it read before'; 0 by the template 'total and deterministic' (their statements: YtcecekmeopbgjaaTotals.lean).
  GIVEN WITH THE SEED: the statements are not yours to turn. If you find one false, say at which input.
  Laid BY PROGRAM, IN A SANDBOX (cutbox-rows.mjs): the forced cells as the released guide's own fill.sh prints them over the translation 6f946f84187c8f73… (all of the seat's roots in one cut). By AI agents, Wed Nov 11 2026. No macro, syntax, notation, axiom, sorry.
-/
import Derived.Test.YtcecekmeopbgjaaChecked
import GoSem.Claim
import GoSem.ClaimJoined
import GoSem.ClaimMapViews
import Derived.JoinedTies
import Derived.KernelRfl
namespace Go.Proofs.Ytcecekmeopbgjaa
/- THE CELL 'sum', in the pinned program and in every row, IS THE sha256 OF THE DUMP (.gsa) THAT YtcecekmeopbgjaaProg.lean LOADS. Nothing in Lean hashes anything: it is a label: what it is worth is what the hold of that sum in a sandbox is worth. -/
noncomputable def Try.pinned : Pinned := { name := "ytcecekmeopbgjaa", sum := "6f946f84187c8f73a95476de1782a742629558bfd752538281f5ecc74b1429e0", checked := Try.checked }
namespace Rows
def none {H : Type} : Left H := { results := [], args := [] }

/-- 'wheelhouselaw03.Sum16Sums': WHATEVER THE INPUT: true; the input reads as it did. -/
def sum16SumsSpec : ChangeSpec := { name := "sum16Sums", fn := fun _ => fun
  | [d1, d2] => { results := [.lit (.bool true)], args := [d1, d2] }
  | _ => none }
def sum16SumsRow : OpenClaim := { program := "ytcecekmeopbgjaa", sum := "6f946f84187c8f73a95476de1782a742629558bfd752538281f5ecc74b1429e0", func := "wheelhouse/wheelhouselaw03.Sum16Sums", spec := "sum16Sums", unfollowed := true, recurses := true, apart := false }
def Sum16SumsSaid : Prop := sum16SumsRow.holds Try.pinned (OpenSpec.ofChange sum16SumsSpec)

/-- ITS FALSE NEIGHBOUR: 'it returns false'. Refute it at one input. -/
def sum16SumsWrong : ChangeSpec := { name := "sum16Sums", fn := fun _ => fun
  | [d1, d2] => { results := [.lit (.bool false)], args := [d1, d2] }
  | _ => none }
def Sum16SumsWrongFalsely : Prop := sum16SumsRow.holds Try.pinned (OpenSpec.ofChange sum16SumsWrong)

/-- 'wheelhouselaw03.Sum16Whole': WHATEVER THE INPUT: true; the input reads as it did. -/
def sum16WholeSpec : ChangeSpec := { name := "sum16Whole", fn := fun _ => fun
  | [d1, d2] => { results := [.lit (.bool true)], args := [d1, d2] }
  | _ => none }
def sum16WholeRow : OpenClaim := { program := "ytcecekmeopbgjaa", sum := "6f946f84187c8f73a95476de1782a742629558bfd752538281f5ecc74b1429e0", func := "wheelhouse/wheelhouselaw03.Sum16Whole", spec := "sum16Whole", unfollowed := true, recurses := true, apart := false }
def Sum16WholeSaid : Prop := sum16WholeRow.holds Try.pinned (OpenSpec.ofChange sum16WholeSpec)

/-- ITS FALSE NEIGHBOUR: 'it returns false'. Refute it at one input. -/
def sum16WholeWrong : ChangeSpec := { name := "sum16Whole", fn := fun _ => fun
  | [d1, d2] => { results := [.lit (.bool false)], args := [d1, d2] }
  | _ => none }
def Sum16WholeWrongFalsely : Prop := sum16WholeRow.holds Try.pinned (OpenSpec.ofChange sum16WholeWrong)

/-- 'wheelhouselaw03.Sum16Turned': WHATEVER THE INPUT: true; the input reads as it did. -/
def sum16TurnedSpec : ChangeSpec := { name := "sum16Turned", fn := fun _ => fun
  | [d1, d2, d3] => { results := [.lit (.bool true)], args := [d1, d2, d3] }
  | _ => none }
def sum16TurnedRow : OpenClaim := { program := "ytcecekmeopbgjaa", sum := "6f946f84187c8f73a95476de1782a742629558bfd752538281f5ecc74b1429e0", func := "wheelhouse/wheelhouselaw03.Sum16Turned", spec := "sum16Turned", unfollowed := true, recurses := true, apart := false }
def Sum16TurnedSaid : Prop := sum16TurnedRow.holds Try.pinned (OpenSpec.ofChange sum16TurnedSpec)

/-- ITS FALSE NEIGHBOUR: 'it returns false'. Refute it at one input. -/
def sum16TurnedWrong : ChangeSpec := { name := "sum16Turned", fn := fun _ => fun
  | [d1, d2, d3] => { results := [.lit (.bool false)], args := [d1, d2, d3] }
  | _ => none }
def Sum16TurnedWrongFalsely : Prop := sum16TurnedRow.holds Try.pinned (OpenSpec.ofChange sum16TurnedWrong)

/-- 'wheelhouselaw03.Sum16Linear': WHATEVER THE INPUT: true; the input reads as it did. -/
def sum16LinearSpec : ChangeSpec := { name := "sum16Linear", fn := fun _ => fun
  | [d1, d2, d3] => { results := [.lit (.bool true)], args := [d1, d2, d3] }
  | _ => none }
def sum16LinearRow : OpenClaim := { program := "ytcecekmeopbgjaa", sum := "6f946f84187c8f73a95476de1782a742629558bfd752538281f5ecc74b1429e0", func := "wheelhouse/wheelhouselaw03.Sum16Linear", spec := "sum16Linear", unfollowed := true, recurses := true, apart := false }
def Sum16LinearSaid : Prop := sum16LinearRow.holds Try.pinned (OpenSpec.ofChange sum16LinearSpec)

/-- ITS FALSE NEIGHBOUR: 'it returns false'. Refute it at one input. -/
def sum16LinearWrong : ChangeSpec := { name := "sum16Linear", fn := fun _ => fun
  | [d1, d2, d3] => { results := [.lit (.bool false)], args := [d1, d2, d3] }
  | _ => none }
def Sum16LinearWrongFalsely : Prop := sum16LinearRow.holds Try.pinned (OpenSpec.ofChange sum16LinearWrong)

/- THE SECOND FORM. 'bulk': how many values and letters a reading holds, each counted each time it is reached (what is shared counts as often as it is met; a slice's spare places count too). A statement '..UptoSaid' is the law's where the arguments, and the package variables that the reading takes, are together of bulk at most 1048576: NARROWER than '..Said'. Prove '..Said' where nothing that the law and all that it calls make is longer than what came in: it says more and counts as full. Else prove '..UptoSaid'. A law counts once. -/
mutual
def uptoBulk {H : Type} : DataW H → Nat
  | .lit (.string bytes) => bytes.length + 1
  | .lit _ => 1
  | .nil => 1
  | .ptr d => uptoBulk d + 1
  | .slice elems spare => uptoBulkAll elems + uptoBulkAll spare + 1
  | .agg parts => uptoBulkAll parts + 1
  | .iface _ d => uptoBulk d + 1
  | .map entries => uptoBulkEntries entries + 1
  | .held _ => 1
def uptoBulkAll {H : Type} : List (DataW H) → Nat
  | [] => 0
  | d :: r => uptoBulk d + uptoBulkAll r
def uptoBulkEntries {H : Type} : List (Lit × DataW H) → Nat
  | [] => 0
  | x :: r => uptoBulkEntry x + uptoBulkEntries r
def uptoBulkEntry {H : Type} : Lit × DataW H → Nat
  | (.string bytes, d) => bytes.length + uptoBulk d + 1
  | (_, d) => uptoBulk d + 1
 end
def uptoSmall : (H : Type) → List (DataW H) → Bool := fun _ ds => decide (uptoBulkAll ds ≤ 1048576)
def OpenSpec.upto (s : _root_.Go.ChangeSpec) : _root_.Go.OpenSpec := { _root_.Go.OpenSpec.ofChange s with cond := some uptoSmall }

/-- 'wheelhouselaw03.Sum16Sums', WHERE WHAT IT READS IS OF BULK AT MOST 1048576: true; the input reads as it did. -/
def sum16SumsUptoRow : OpenClaim := { program := "ytcecekmeopbgjaa", sum := "6f946f84187c8f73a95476de1782a742629558bfd752538281f5ecc74b1429e0", func := "wheelhouse/wheelhouselaw03.Sum16Sums", spec := "sum16Sums", unfollowed := true, recurses := true, apart := false, narrowed := true }
def Sum16SumsUptoSaid : Prop := sum16SumsUptoRow.holds Try.pinned (OpenSpec.upto sum16SumsSpec)

/-- 'wheelhouselaw03.Sum16Whole', WHERE WHAT IT READS IS OF BULK AT MOST 1048576: true; the input reads as it did. -/
def sum16WholeUptoRow : OpenClaim := { program := "ytcecekmeopbgjaa", sum := "6f946f84187c8f73a95476de1782a742629558bfd752538281f5ecc74b1429e0", func := "wheelhouse/wheelhouselaw03.Sum16Whole", spec := "sum16Whole", unfollowed := true, recurses := true, apart := false, narrowed := true }
def Sum16WholeUptoSaid : Prop := sum16WholeUptoRow.holds Try.pinned (OpenSpec.upto sum16WholeSpec)

/-- 'wheelhouselaw03.Sum16Turned', WHERE WHAT IT READS IS OF BULK AT MOST 1048576: true; the input reads as it did. -/
def sum16TurnedUptoRow : OpenClaim := { program := "ytcecekmeopbgjaa", sum := "6f946f84187c8f73a95476de1782a742629558bfd752538281f5ecc74b1429e0", func := "wheelhouse/wheelhouselaw03.Sum16Turned", spec := "sum16Turned", unfollowed := true, recurses := true, apart := false, narrowed := true }
def Sum16TurnedUptoSaid : Prop := sum16TurnedUptoRow.holds Try.pinned (OpenSpec.upto sum16TurnedSpec)

/-- 'wheelhouselaw03.Sum16Linear', WHERE WHAT IT READS IS OF BULK AT MOST 1048576: true; the input reads as it did. -/
def sum16LinearUptoRow : OpenClaim := { program := "ytcecekmeopbgjaa", sum := "6f946f84187c8f73a95476de1782a742629558bfd752538281f5ecc74b1429e0", func := "wheelhouse/wheelhouselaw03.Sum16Linear", spec := "sum16Linear", unfollowed := true, recurses := true, apart := false, narrowed := true }
def Sum16LinearUptoSaid : Prop := sum16LinearUptoRow.holds Try.pinned (OpenSpec.upto sum16LinearSpec)

end Rows
end Go.Proofs.Ytcecekmeopbgjaa
