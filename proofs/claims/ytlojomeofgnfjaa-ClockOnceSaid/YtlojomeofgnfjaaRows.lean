/-
  No cell of these rows narrows 'for every input' (looked for: loops, veiled, ifaces, maps, wideKeys, modest, calm, conditions, laid).
  DERIVED. THE GIVEN ROWS OF THIS SEAT. 5 by the template 'for every input the law returns true; each argument reads behind the call as it read before'; 0 by the template 'total and deterministic' (their statements: YtlojomeofgnfjaaTotals.lean).
  GIVEN WITH THE SEED: the statements are not yours to turn. If you find one false, say at which input.
  Laid BY PROGRAM, IN A SANDBOX (cutbox-rows.mjs): the forced cells as the released guide's own fill.sh prints them over the translation 2d2a3f56b34b6b4a… (all of the seat's roots in one cut). By AI agents, Wed Nov 11 2026. No macro, syntax, notation, axiom, sorry.
-/
import Derived.Test.YtlojomeofgnfjaaChecked
import GoSem.Claim
import GoSem.ClaimJoined
import GoSem.ClaimMapViews
import Derived.JoinedTies
import Derived.KernelRfl
namespace Go.Proofs.Ytlojomeofgnfjaa
/- THE CELL 'sum', in the pinned program and in every row, IS THE sha256 OF THE DUMP (.gsa) THAT YtlojomeofgnfjaaProg.lean LOADS. Nothing in Lean hashes anything: it is a label: what it is worth is what the hold of that sum in a sandbox is worth. -/
noncomputable def Try.pinned : Pinned := { name := "ytlojomeofgnfjaa", sum := "2d2a3f56b34b6b4a728b3d559f0c4b9a47bdc961c4f41c63070fabb49f042f7d", checked := Try.checked }
namespace Rows
def none {H : Type} : Left H := { results := [], args := [] }

/-- 'wheelhouselaw12.TxqOrder': WHATEVER THE INPUT: true; the input reads as it did. -/
def txqOrderSpec : ChangeSpec := { name := "txqOrder", fn := fun _ => fun
  | [d] => { results := [.lit (.bool true)], args := [d] }
  | _ => none }
def txqOrderRow : OpenClaim := { program := "ytlojomeofgnfjaa", sum := "2d2a3f56b34b6b4a728b3d559f0c4b9a47bdc961c4f41c63070fabb49f042f7d", func := "wheelhouse/wheelhouselaw12.TxqOrder", spec := "txqOrder", unfollowed := true, recurses := true, apart := false }
def TxqOrderSaid : Prop := txqOrderRow.holds Try.pinned (OpenSpec.ofChange txqOrderSpec)

/-- ITS FALSE NEIGHBOUR: 'it returns false'. Refute it at one input. -/
def txqOrderWrong : ChangeSpec := { name := "txqOrder", fn := fun _ => fun
  | [d] => { results := [.lit (.bool false)], args := [d] }
  | _ => none }
def TxqOrderWrongFalsely : Prop := txqOrderRow.holds Try.pinned (OpenSpec.ofChange txqOrderWrong)

/-- 'wheelhouselaw13.ClockPlays': WHATEVER THE INPUT: true; the input reads as it did. -/
def clockPlaysSpec : ChangeSpec := { name := "clockPlays", fn := fun _ => fun
  | [d] => { results := [.lit (.bool true)], args := [d] }
  | _ => none }
def clockPlaysRow : OpenClaim := { program := "ytlojomeofgnfjaa", sum := "2d2a3f56b34b6b4a728b3d559f0c4b9a47bdc961c4f41c63070fabb49f042f7d", func := "wheelhouse/wheelhouselaw13.ClockPlays", spec := "clockPlays", unfollowed := true, recurses := true, apart := false }
def ClockPlaysSaid : Prop := clockPlaysRow.holds Try.pinned (OpenSpec.ofChange clockPlaysSpec)

/-- ITS FALSE NEIGHBOUR: 'it returns false'. Refute it at one input. -/
def clockPlaysWrong : ChangeSpec := { name := "clockPlays", fn := fun _ => fun
  | [d] => { results := [.lit (.bool false)], args := [d] }
  | _ => none }
def ClockPlaysWrongFalsely : Prop := clockPlaysRow.holds Try.pinned (OpenSpec.ofChange clockPlaysWrong)

/-- 'wheelhouselaw13.ClockOnce': WHATEVER THE INPUT: true; the input reads as it did. -/
def clockOnceSpec : ChangeSpec := { name := "clockOnce", fn := fun _ => fun
  | [d1, d2, d3] => { results := [.lit (.bool true)], args := [d1, d2, d3] }
  | _ => none }
def clockOnceRow : OpenClaim := { program := "ytlojomeofgnfjaa", sum := "2d2a3f56b34b6b4a728b3d559f0c4b9a47bdc961c4f41c63070fabb49f042f7d", func := "wheelhouse/wheelhouselaw13.ClockOnce", spec := "clockOnce", unfollowed := true, recurses := true, apart := false }
def ClockOnceSaid : Prop := clockOnceRow.holds Try.pinned (OpenSpec.ofChange clockOnceSpec)

/-- ITS FALSE NEIGHBOUR: 'it returns false'. Refute it at one input. -/
def clockOnceWrong : ChangeSpec := { name := "clockOnce", fn := fun _ => fun
  | [d1, d2, d3] => { results := [.lit (.bool false)], args := [d1, d2, d3] }
  | _ => none }
def ClockOnceWrongFalsely : Prop := clockOnceRow.holds Try.pinned (OpenSpec.ofChange clockOnceWrong)

/-- 'wheelhouselaw13.ClockEvery': WHATEVER THE INPUT: true; the input reads as it did. -/
def clockEverySpec : ChangeSpec := { name := "clockEvery", fn := fun _ => fun
  | [d1, d2] => { results := [.lit (.bool true)], args := [d1, d2] }
  | _ => none }
def clockEveryRow : OpenClaim := { program := "ytlojomeofgnfjaa", sum := "2d2a3f56b34b6b4a728b3d559f0c4b9a47bdc961c4f41c63070fabb49f042f7d", func := "wheelhouse/wheelhouselaw13.ClockEvery", spec := "clockEvery", unfollowed := true, recurses := true, apart := false }
def ClockEverySaid : Prop := clockEveryRow.holds Try.pinned (OpenSpec.ofChange clockEverySpec)

/-- ITS FALSE NEIGHBOUR: 'it returns false'. Refute it at one input. -/
def clockEveryWrong : ChangeSpec := { name := "clockEvery", fn := fun _ => fun
  | [d1, d2] => { results := [.lit (.bool false)], args := [d1, d2] }
  | _ => none }
def ClockEveryWrongFalsely : Prop := clockEveryRow.holds Try.pinned (OpenSpec.ofChange clockEveryWrong)

/-- 'wheelhouselaw13.ClockNil': WHATEVER THE INPUT: true; the input reads as it did. -/
def clockNilSpec : ChangeSpec := { name := "clockNil", fn := fun _ => fun
  | [d1, d2] => { results := [.lit (.bool true)], args := [d1, d2] }
  | _ => none }
def clockNilRow : OpenClaim := { program := "ytlojomeofgnfjaa", sum := "2d2a3f56b34b6b4a728b3d559f0c4b9a47bdc961c4f41c63070fabb49f042f7d", func := "wheelhouse/wheelhouselaw13.ClockNil", spec := "clockNil", unfollowed := true, recurses := true, apart := false }
def ClockNilSaid : Prop := clockNilRow.holds Try.pinned (OpenSpec.ofChange clockNilSpec)

/-- ITS FALSE NEIGHBOUR: 'it returns false'. Refute it at one input. -/
def clockNilWrong : ChangeSpec := { name := "clockNil", fn := fun _ => fun
  | [d1, d2] => { results := [.lit (.bool false)], args := [d1, d2] }
  | _ => none }
def ClockNilWrongFalsely : Prop := clockNilRow.holds Try.pinned (OpenSpec.ofChange clockNilWrong)

/- THE SECOND FORM. 'bulk': how many values and letters a reading holds, each counted each time it is reached (what is shared counts as often as it is met; a slice's spare places count too). A statement '..UptoSaid' is the law's where the arguments, and the package variables that the reading takes, are together of bulk at most 1048576: NARROWER than '..Said'. Prove '..Said' where nothing that the law and all that it calls make is longer than what came in: it says more and counts as full. Else prove '..UptoSaid'. A law counts once. -/
mutual
def uptoBulk {H : Type} : DataW H → Nat
  | .lit (.string bytes) => bytes.length + 1
  | .lit _ => 1
  | .nil => 1
  | .ptr d => uptoBulk d + 1
  | .slice elems spare => uptoBulkAll elems + uptoBulkAll spare + 1
  | .agg parts => uptoBulkAll parts + 1
  | .iface _ d => uptoBulk d + 1
  | .map entries => uptoBulkEntries entries + 1
  | .held _ => 1
def uptoBulkAll {H : Type} : List (DataW H) → Nat
  | [] => 0
  | d :: r => uptoBulk d + uptoBulkAll r
def uptoBulkEntries {H : Type} : List (Lit × DataW H) → Nat
  | [] => 0
  | x :: r => uptoBulkEntry x + uptoBulkEntries r
def uptoBulkEntry {H : Type} : Lit × DataW H → Nat
  | (.string bytes, d) => bytes.length + uptoBulk d + 1
  | (_, d) => uptoBulk d + 1
 end
def uptoSmall : (H : Type) → List (DataW H) → Bool := fun _ ds => decide (uptoBulkAll ds ≤ 1048576)
def OpenSpec.upto (s : _root_.Go.ChangeSpec) : _root_.Go.OpenSpec := { _root_.Go.OpenSpec.ofChange s with cond := some uptoSmall }

/-- 'wheelhouselaw12.TxqOrder', WHERE WHAT IT READS IS OF BULK AT MOST 1048576: true; the input reads as it did. -/
def txqOrderUptoRow : OpenClaim := { program := "ytlojomeofgnfjaa", sum := "2d2a3f56b34b6b4a728b3d559f0c4b9a47bdc961c4f41c63070fabb49f042f7d", func := "wheelhouse/wheelhouselaw12.TxqOrder", spec := "txqOrder", unfollowed := true, recurses := true, apart := false, narrowed := true }
def TxqOrderUptoSaid : Prop := txqOrderUptoRow.holds Try.pinned (OpenSpec.upto txqOrderSpec)

/-- 'wheelhouselaw13.ClockPlays', WHERE WHAT IT READS IS OF BULK AT MOST 1048576: true; the input reads as it did. -/
def clockPlaysUptoRow : OpenClaim := { program := "ytlojomeofgnfjaa", sum := "2d2a3f56b34b6b4a728b3d559f0c4b9a47bdc961c4f41c63070fabb49f042f7d", func := "wheelhouse/wheelhouselaw13.ClockPlays", spec := "clockPlays", unfollowed := true, recurses := true, apart := false, narrowed := true }
def ClockPlaysUptoSaid : Prop := clockPlaysUptoRow.holds Try.pinned (OpenSpec.upto clockPlaysSpec)

/-- 'wheelhouselaw13.ClockOnce', WHERE WHAT IT READS IS OF BULK AT MOST 1048576: true; the input reads as it did. -/
def clockOnceUptoRow : OpenClaim := { program := "ytlojomeofgnfjaa", sum := "2d2a3f56b34b6b4a728b3d559f0c4b9a47bdc961c4f41c63070fabb49f042f7d", func := "wheelhouse/wheelhouselaw13.ClockOnce", spec := "clockOnce", unfollowed := true, recurses := true, apart := false, narrowed := true }
def ClockOnceUptoSaid : Prop := clockOnceUptoRow.holds Try.pinned (OpenSpec.upto clockOnceSpec)

/-- 'wheelhouselaw13.ClockEvery', WHERE WHAT IT READS IS OF BULK AT MOST 1048576: true; the input reads as it did. -/
def clockEveryUptoRow : OpenClaim := { program := "ytlojomeofgnfjaa", sum := "2d2a3f56b34b6b4a728b3d559f0c4b9a47bdc961c4f41c63070fabb49f042f7d", func := "wheelhouse/wheelhouselaw13.ClockEvery", spec := "clockEvery", unfollowed := true, recurses := true, apart := false, narrowed := true }
def ClockEveryUptoSaid : Prop := clockEveryUptoRow.holds Try.pinned (OpenSpec.upto clockEverySpec)

/-- 'wheelhouselaw13.ClockNil', WHERE WHAT IT READS IS OF BULK AT MOST 1048576: true; the input reads as it did. -/
def clockNilUptoRow : OpenClaim := { program := "ytlojomeofgnfjaa", sum := "2d2a3f56b34b6b4a728b3d559f0c4b9a47bdc961c4f41c63070fabb49f042f7d", func := "wheelhouse/wheelhouselaw13.ClockNil", spec := "clockNil", unfollowed := true, recurses := true, apart := false, narrowed := true }
def ClockNilUptoSaid : Prop := clockNilUptoRow.holds Try.pinned (OpenSpec.upto clockNilSpec)

end Rows
end Go.Proofs.Ytlojomeofgnfjaa
