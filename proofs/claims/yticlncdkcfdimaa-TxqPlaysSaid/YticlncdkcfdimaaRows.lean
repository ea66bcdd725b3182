/-
  No cell of these rows narrows 'for every input' (looked for: loops, veiled, ifaces, maps, wideKeys, modest, calm, conditions, laid).
  DERIVED. THE GIVEN ROWS OF THIS SEAT. 4 by the template 'for every input the law returns true; each argument reads behind the call as it read before'; 0 by the template 'total and deterministic' (their statements: YticlncdkcfdimaaTotals.lean).
  GIVEN WITH THE SEED: the statements are not yours to turn. If you find one false, say at which input.
  Laid BY PROGRAM, IN A SANDBOX (cutbox-rows.mjs): the forced cells as the released guide's own fill.sh prints them over the translation e0b400aac4dd3720… (all of the seat's roots in one cut). By AI agents, Wed Nov 11 2026. No macro, syntax, notation, axiom, sorry.
-/
import Derived.Test.YticlncdkcfdimaaChecked
import GoSem.Claim
import GoSem.ClaimJoined
import GoSem.ClaimMapViews
import Derived.JoinedTies
import Derived.KernelRfl
namespace Go.Proofs.Yticlncdkcfdimaa
/- THE CELL 'sum', in the pinned program and in every row, IS THE sha256 OF THE DUMP (.gsa) THAT YticlncdkcfdimaaProg.lean LOADS. Nothing in Lean hashes anything: it is a label: what it is worth is what the hold of that sum in a sandbox is worth. -/
noncomputable def Try.pinned : Pinned := { name := "yticlncdkcfdimaa", sum := "e0b400aac4dd37206f3f85a2e9da755dcd9fc8b069a934465a46549256cd33bd", checked := Try.checked }
namespace Rows
def none {H : Type} : Left H := { results := [], args := [] }

/-- 'wheelhouselaw12.TxqPlays': WHATEVER THE INPUT: true; the input reads as it did. -/
def txqPlaysSpec : ChangeSpec := { name := "txqPlays", fn := fun _ => fun
  | [d1, d2] => { results := [.lit (.bool true)], args := [d1, d2] }
  | _ => none }
def txqPlaysRow : OpenClaim := { program := "yticlncdkcfdimaa", sum := "e0b400aac4dd37206f3f85a2e9da755dcd9fc8b069a934465a46549256cd33bd", func := "wheelhouse/wheelhouselaw12.TxqPlays", spec := "txqPlays", unfollowed := true, recurses := true, apart := false }
def TxqPlaysSaid : Prop := txqPlaysRow.holds Try.pinned (OpenSpec.ofChange txqPlaysSpec)

/-- ITS FALSE NEIGHBOUR: 'it returns false'. Refute it at one input. -/
def txqPlaysWrong : ChangeSpec := { name := "txqPlays", fn := fun _ => fun
  | [d1, d2] => { results := [.lit (.bool false)], args := [d1, d2] }
  | _ => none }
def TxqPlaysWrongFalsely : Prop := txqPlaysRow.holds Try.pinned (OpenSpec.ofChange txqPlaysWrong)

/-- 'wheelhouselaw12.TxqOrder': WHATEVER THE INPUT: true; the input reads as it did. -/
def txqOrderSpec : ChangeSpec := { name := "txqOrder", fn := fun _ => fun
  | [d] => { results := [.lit (.bool true)], args := [d] }
  | _ => none }
def txqOrderRow : OpenClaim := { program := "yticlncdkcfdimaa", sum := "e0b400aac4dd37206f3f85a2e9da755dcd9fc8b069a934465a46549256cd33bd", func := "wheelhouse/wheelhouselaw12.TxqOrder", spec := "txqOrder", unfollowed := true, recurses := true, apart := false }
def TxqOrderSaid : Prop := txqOrderRow.holds Try.pinned (OpenSpec.ofChange txqOrderSpec)

/-- ITS FALSE NEIGHBOUR: 'it returns false'. Refute it at one input. -/
def txqOrderWrong : ChangeSpec := { name := "txqOrder", fn := fun _ => fun
  | [d] => { results := [.lit (.bool false)], args := [d] }
  | _ => none }
def TxqOrderWrongFalsely : Prop := txqOrderRow.holds Try.pinned (OpenSpec.ofChange txqOrderWrong)

/-- 'wheelhouselaw12.TxqCounts': WHATEVER THE INPUT: true; the input reads as it did. -/
def txqCountsSpec : ChangeSpec := { name := "txqCounts", fn := fun _ => fun
  | [d1, d2] => { results := [.lit (.bool true)], args := [d1, d2] }
  | _ => none }
def txqCountsRow : OpenClaim := { program := "yticlncdkcfdimaa", sum := "e0b400aac4dd37206f3f85a2e9da755dcd9fc8b069a934465a46549256cd33bd", func := "wheelhouse/wheelhouselaw12.TxqCounts", spec := "txqCounts", unfollowed := true, recurses := true, apart := false }
def TxqCountsSaid : Prop := txqCountsRow.holds Try.pinned (OpenSpec.ofChange txqCountsSpec)

/-- ITS FALSE NEIGHBOUR: 'it returns false'. Refute it at one input. -/
def txqCountsWrong : ChangeSpec := { name := "txqCounts", fn := fun _ => fun
  | [d1, d2] => { results := [.lit (.bool false)], args := [d1, d2] }
  | _ => none }
def TxqCountsWrongFalsely : Prop := txqCountsRow.holds Try.pinned (OpenSpec.ofChange txqCountsWrong)

/-- 'wheelhouselaw12.TxqNil': WHATEVER THE INPUT: true; the input reads as it did. -/
def txqNilSpec : ChangeSpec := { name := "txqNil", fn := fun _ => fun
  | [d] => { results := [.lit (.bool true)], args := [d] }
  | _ => none }
def txqNilRow : OpenClaim := { program := "yticlncdkcfdimaa", sum := "e0b400aac4dd37206f3f85a2e9da755dcd9fc8b069a934465a46549256cd33bd", func := "wheelhouse/wheelhouselaw12.TxqNil", spec := "txqNil", unfollowed := true, recurses := true, apart := false }
def TxqNilSaid : Prop := txqNilRow.holds Try.pinned (OpenSpec.ofChange txqNilSpec)

/-- ITS FALSE NEIGHBOUR: 'it returns false'. Refute it at one input. -/
def txqNilWrong : ChangeSpec := { name := "txqNil", fn := fun _ => fun
  | [d] => { results := [.lit (.bool false)], args := [d] }
  | _ => none }
def TxqNilWrongFalsely : Prop := txqNilRow.holds Try.pinned (OpenSpec.ofChange txqNilWrong)

/- THE SECOND FORM. 'bulk': how many values and letters a reading holds, each counted each time it is reached (what is shared counts as often as it is met; a slice's spare places count too). A statement '..UptoSaid' is the law's where the arguments, and the package variables that the reading takes, are together of bulk at most 1048576: NARROWER than '..Said'. Prove '..Said' where nothing that the law and all that it calls make is longer than what came in: it says more and counts as full. Else prove '..UptoSaid'. A law counts once. -/
mutual
def uptoBulk {H : Type} : DataW H → Nat
  | .lit (.string bytes) => bytes.length + 1
  | .lit _ => 1
  | .nil => 1
  | .ptr d => uptoBulk d + 1
  | .slice elems spare => uptoBulkAll elems + uptoBulkAll spare + 1
  | .agg parts => uptoBulkAll parts + 1
  | .iface _ d => uptoBulk d + 1
  | .map entries => uptoBulkEntries entries + 1
  | .held _ => 1
def uptoBulkAll {H : Type} : List (DataW H) → Nat
  | [] => 0
  | d :: r => uptoBulk d + uptoBulkAll r
def uptoBulkEntries {H : Type} : List (Lit × DataW H) → Nat
  | [] => 0
  | x :: r => uptoBulkEntry x + uptoBulkEntries r
def uptoBulkEntry {H : Type} : Lit × DataW H → Nat
  | (.string bytes, d) => bytes.length + uptoBulk d + 1
  | (_, d) => uptoBulk d + 1
 end
def uptoSmall : (H : Type) → List (DataW H) → Bool := fun _ ds => decide (uptoBulkAll ds ≤ 1048576)
def OpenSpec.upto (s : _root_.Go.ChangeSpec) : _root_.Go.OpenSpec := { _root_.Go.OpenSpec.ofChange s with cond := some uptoSmall }

/-- 'wheelhouselaw12.TxqPlays', WHERE WHAT IT READS IS OF BULK AT MOST 1048576: true; the input reads as it did. -/
def txqPlaysUptoRow : OpenClaim := { program := "yticlncdkcfdimaa", sum := "e0b400aac4dd37206f3f85a2e9da755dcd9fc8b069a934465a46549256cd33bd", func := "wheelhouse/wheelhouselaw12.TxqPlays", spec := "txqPlays", unfollowed := true, recurses := true, apart := false, narrowed := true }
def TxqPlaysUptoSaid : Prop := txqPlaysUptoRow.holds Try.pinned (OpenSpec.upto txqPlaysSpec)

/-- 'wheelhouselaw12.TxqOrder', WHERE WHAT IT READS IS OF BULK AT MOST 1048576: true; the input reads as it did. -/
def txqOrderUptoRow : OpenClaim := { program := "yticlncdkcfdimaa", sum := "e0b400aac4dd37206f3f85a2e9da755dcd9fc8b069a934465a46549256cd33bd", func := "wheelhouse/wheelhouselaw12.TxqOrder", spec := "txqOrder", unfollowed := true, recurses := true, apart := false, narrowed := true }
def TxqOrderUptoSaid : Prop := txqOrderUptoRow.holds Try.pinned (OpenSpec.upto txqOrderSpec)

/-- 'wheelhouselaw12.TxqCounts', WHERE WHAT IT READS IS OF BULK AT MOST 1048576: true; the input reads as it did. -/
def txqCountsUptoRow : OpenClaim := { program := "yticlncdkcfdimaa", sum := "e0b400aac4dd37206f3f85a2e9da755dcd9fc8b069a934465a46549256cd33bd", func := "wheelhouse/wheelhouselaw12.TxqCounts", spec := "txqCounts", unfollowed := true, recurses := true, apart := false, narrowed := true }
def TxqCountsUptoSaid : Prop := txqCountsUptoRow.holds Try.pinned (OpenSpec.upto txqCountsSpec)

/-- 'wheelhouselaw12.TxqNil', WHERE WHAT IT READS IS OF BULK AT MOST 1048576: true; the input reads as it did. -/
def txqNilUptoRow : OpenClaim := { program := "yticlncdkcfdimaa", sum := "e0b400aac4dd37206f3f85a2e9da755dcd9fc8b069a934465a46549256cd33bd", func := "wheelhouse/wheelhouselaw12.TxqNil", spec := "txqNil", unfollowed := true, recurses := true, apart := false, narrowed := true }
def TxqNilUptoSaid : Prop := txqNilUptoRow.holds Try.pinned (OpenSpec.upto txqNilSpec)

end Rows
end Go.Proofs.Yticlncdkcfdimaa
