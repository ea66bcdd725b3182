/-
  No cell of these rows narrows 'for every input' (looked for: loops, veiled, ifaces, maps, wideKeys, modest, calm, conditions, laid).
  DERIVED. THE GIVEN ROWS OF THIS SEAT. 5 by the template 'for every input the law returns true; each argument reads behind the call as it read before'; 0 by the template 'total and deterministic' (their statements: YtppjjdaejhilkaaTotals.lean).
  GIVEN WITH THE SEED: the statements are not yours to turn. If you find one false, say at which input.
  Laid BY PROGRAM, IN A SANDBOX (cutbox-rows.mjs): the forced cells as the released guide's own fill.sh prints them over the translation c932d99d115b2284… (all of the seat's roots in one cut). By AI agents, Wed Nov 11 2026. No macro, syntax, notation, axiom, sorry.
-/
import Derived.Test.YtppjjdaejhilkaaChecked
import GoSem.Claim
import GoSem.ClaimJoined
import GoSem.ClaimMapViews
import Derived.JoinedTies
import Derived.KernelRfl
namespace Go.Proofs.Ytppjjdaejhilkaa
/- THE CELL 'sum', in the pinned program and in every row, IS THE sha256 OF THE DUMP (.gsa) THAT YtppjjdaejhilkaaProg.lean LOADS. Nothing in Lean hashes anything: it is a label: what it is worth is what the hold of that sum in a sandbox is worth. -/
noncomputable def Try.pinned : Pinned := { name := "ytppjjdaejhilkaa", sum := "c932d99d115b22844e111058ec9fda00eaea4ef33bff0286414045cb27d34d0b", checked := Try.checked }
namespace Rows
def none {H : Type} : Left H := { results := [], args := [] }

/-- 'wheelhouselaw09.JournalCrashes': WHATEVER THE INPUT: true; the input reads as it did. -/
def journalCrashesSpec : ChangeSpec := { name := "journalCrashes", fn := fun _ => fun
  | [d] => { results := [.lit (.bool true)], args := [d] }
  | _ => none }
def journalCrashesRow : OpenClaim := { program := "ytppjjdaejhilkaa", sum := "c932d99d115b22844e111058ec9fda00eaea4ef33bff0286414045cb27d34d0b", func := "wheelhouse/wheelhouselaw09.JournalCrashes", spec := "journalCrashes", unfollowed := true, recurses := true, apart := false }
def JournalCrashesSaid : Prop := journalCrashesRow.holds Try.pinned (OpenSpec.ofChange journalCrashesSpec)

/-- ITS FALSE NEIGHBOUR: 'it returns false'. Refute it at one input. -/
def journalCrashesWrong : ChangeSpec := { name := "journalCrashes", fn := fun _ => fun
  | [d] => { results := [.lit (.bool false)], args := [d] }
  | _ => none }
def JournalCrashesWrongFalsely : Prop := journalCrashesRow.holds Try.pinned (OpenSpec.ofChange journalCrashesWrong)

/-- 'wheelhouselaw09.JournalAny': WHATEVER THE INPUT: true; the input reads as it did. -/
def journalAnySpec : ChangeSpec := { name := "journalAny", fn := fun _ => fun
  | [d1, d2] => { results := [.lit (.bool true)], args := [d1, d2] }
  | _ => none }
def journalAnyRow : OpenClaim := { program := "ytppjjdaejhilkaa", sum := "c932d99d115b22844e111058ec9fda00eaea4ef33bff0286414045cb27d34d0b", func := "wheelhouse/wheelhouselaw09.JournalAny", spec := "journalAny", unfollowed := true, recurses := true, apart := false }
def JournalAnySaid : Prop := journalAnyRow.holds Try.pinned (OpenSpec.ofChange journalAnySpec)

/-- ITS FALSE NEIGHBOUR: 'it returns false'. Refute it at one input. -/
def journalAnyWrong : ChangeSpec := { name := "journalAny", fn := fun _ => fun
  | [d1, d2] => { results := [.lit (.bool false)], args := [d1, d2] }
  | _ => none }
def JournalAnyWrongFalsely : Prop := journalAnyRow.holds Try.pinned (OpenSpec.ofChange journalAnyWrong)

/-- 'wheelhouselaw09.JournalWork': WHATEVER THE INPUT: true; the input reads as it did. -/
def journalWorkSpec : ChangeSpec := { name := "journalWork", fn := fun _ => fun
  | [d] => { results := [.lit (.bool true)], args := [d] }
  | _ => none }
def journalWorkRow : OpenClaim := { program := "ytppjjdaejhilkaa", sum := "c932d99d115b22844e111058ec9fda00eaea4ef33bff0286414045cb27d34d0b", func := "wheelhouse/wheelhouselaw09.JournalWork", spec := "journalWork", unfollowed := true, recurses := true, apart := false }
def JournalWorkSaid : Prop := journalWorkRow.holds Try.pinned (OpenSpec.ofChange journalWorkSpec)

/-- ITS FALSE NEIGHBOUR: 'it returns false'. Refute it at one input. -/
def journalWorkWrong : ChangeSpec := { name := "journalWork", fn := fun _ => fun
  | [d] => { results := [.lit (.bool false)], args := [d] }
  | _ => none }
def JournalWorkWrongFalsely : Prop := journalWorkRow.holds Try.pinned (OpenSpec.ofChange journalWorkWrong)

/-- 'wheelhouselaw09.JournalWears': WHATEVER THE INPUT: true; the input reads as it did. -/
def journalWearsSpec : ChangeSpec := { name := "journalWears", fn := fun _ => fun
  | [d1, d2] => { results := [.lit (.bool true)], args := [d1, d2] }
  | _ => none }
def journalWearsRow : OpenClaim := { program := "ytppjjdaejhilkaa", sum := "c932d99d115b22844e111058ec9fda00eaea4ef33bff0286414045cb27d34d0b", func := "wheelhouse/wheelhouselaw09.JournalWears", spec := "journalWears", unfollowed := true, recurses := true, apart := false }
def JournalWearsSaid : Prop := journalWearsRow.holds Try.pinned (OpenSpec.ofChange journalWearsSpec)

/-- ITS FALSE NEIGHBOUR: 'it returns false'. Refute it at one input. -/
def journalWearsWrong : ChangeSpec := { name := "journalWears", fn := fun _ => fun
  | [d1, d2] => { results := [.lit (.bool false)], args := [d1, d2] }
  | _ => none }
def JournalWearsWrongFalsely : Prop := journalWearsRow.holds Try.pinned (OpenSpec.ofChange journalWearsWrong)

/-- 'wheelhouselaw09.JournalNil': WHATEVER THE INPUT: true; the input reads as it did. -/
def journalNilSpec : ChangeSpec := { name := "journalNil", fn := fun _ => fun
  | [d1, d2] => { results := [.lit (.bool true)], args := [d1, d2] }
  | _ => none }
def journalNilRow : OpenClaim := { program := "ytppjjdaejhilkaa", sum := "c932d99d115b22844e111058ec9fda00eaea4ef33bff0286414045cb27d34d0b", func := "wheelhouse/wheelhouselaw09.JournalNil", spec := "journalNil", unfollowed := true, recurses := true, apart := false }
def JournalNilSaid : Prop := journalNilRow.holds Try.pinned (OpenSpec.ofChange journalNilSpec)

/-- ITS FALSE NEIGHBOUR: 'it returns false'. Refute it at one input. -/
def journalNilWrong : ChangeSpec := { name := "journalNil", fn := fun _ => fun
  | [d1, d2] => { results := [.lit (.bool false)], args := [d1, d2] }
  | _ => none }
def JournalNilWrongFalsely : Prop := journalNilRow.holds Try.pinned (OpenSpec.ofChange journalNilWrong)

/- THE SECOND FORM. 'bulk': how many values and letters a reading holds, each counted each time it is reached (what is shared counts as often as it is met; a slice's spare places count too). A statement '..UptoSaid' is the law's where the arguments, and the package variables that the reading takes, are together of bulk at most 1048576: NARROWER than '..Said'. Prove '..Said' where nothing that the law and all that it calls make is longer than what came in: it says more and counts as full. Else prove '..UptoSaid'. A law counts once. -/
mutual
def uptoBulk {H : Type} : DataW H → Nat
  | .lit (.string bytes) => bytes.length + 1
  | .lit _ => 1
  | .nil => 1
  | .ptr d => uptoBulk d + 1
  | .slice elems spare => uptoBulkAll elems + uptoBulkAll spare + 1
  | .agg parts => uptoBulkAll parts + 1
  | .iface _ d => uptoBulk d + 1
  | .map entries => uptoBulkEntries entries + 1
  | .held _ => 1
def uptoBulkAll {H : Type} : List (DataW H) → Nat
  | [] => 0
  | d :: r => uptoBulk d + uptoBulkAll r
def uptoBulkEntries {H : Type} : List (Lit × DataW H) → Nat
  | [] => 0
  | x :: r => uptoBulkEntry x + uptoBulkEntries r
def uptoBulkEntry {H : Type} : Lit × DataW H → Nat
  | (.string bytes, d) => bytes.length + uptoBulk d + 1
  | (_, d) => uptoBulk d + 1
 end
def uptoSmall : (H : Type) → List (DataW H) → Bool := fun _ ds => decide (uptoBulkAll ds ≤ 1048576)
def OpenSpec.upto (s : _root_.Go.ChangeSpec) : _root_.Go.OpenSpec := { _root_.Go.OpenSpec.ofChange s with cond := some uptoSmall }

/-- 'wheelhouselaw09.JournalCrashes', WHERE WHAT IT READS IS OF BULK AT MOST 1048576: true; the input reads as it did. -/
def journalCrashesUptoRow : OpenClaim := { program := "ytppjjdaejhilkaa", sum := "c932d99d115b22844e111058ec9fda00eaea4ef33bff0286414045cb27d34d0b", func := "wheelhouse/wheelhouselaw09.JournalCrashes", spec := "journalCrashes", unfollowed := true, recurses := true, apart := false, narrowed := true }
def JournalCrashesUptoSaid : Prop := journalCrashesUptoRow.holds Try.pinned (OpenSpec.upto journalCrashesSpec)

/-- 'wheelhouselaw09.JournalAny', WHERE WHAT IT READS IS OF BULK AT MOST 1048576: true; the input reads as it did. -/
def journalAnyUptoRow : OpenClaim := { program := "ytppjjdaejhilkaa", sum := "c932d99d115b22844e111058ec9fda00eaea4ef33bff0286414045cb27d34d0b", func := "wheelhouse/wheelhouselaw09.JournalAny", spec := "journalAny", unfollowed := true, recurses := true, apart := false, narrowed := true }
def JournalAnyUptoSaid : Prop := journalAnyUptoRow.holds Try.pinned (OpenSpec.upto journalAnySpec)

/-- 'wheelhouselaw09.JournalWork', WHERE WHAT IT READS IS OF BULK AT MOST 1048576: true; the input reads as it did. -/
def journalWorkUptoRow : OpenClaim := { program := "ytppjjdaejhilkaa", sum := "c932d99d115b22844e111058ec9fda00eaea4ef33bff0286414045cb27d34d0b", func := "wheelhouse/wheelhouselaw09.JournalWork", spec := "journalWork", unfollowed := true, recurses := true, apart := false, narrowed := true }
def JournalWorkUptoSaid : Prop := journalWorkUptoRow.holds Try.pinned (OpenSpec.upto journalWorkSpec)

/-- 'wheelhouselaw09.JournalWears', WHERE WHAT IT READS IS OF BULK AT MOST 1048576: true; the input reads as it did. -/
def journalWearsUptoRow : OpenClaim := { program := "ytppjjdaejhilkaa", sum := "c932d99d115b22844e111058ec9fda00eaea4ef33bff0286414045cb27d34d0b", func := "wheelhouse/wheelhouselaw09.JournalWears", spec := "journalWears", unfollowed := true, recurses := true, apart := false, narrowed := true }
def JournalWearsUptoSaid : Prop := journalWearsUptoRow.holds Try.pinned (OpenSpec.upto journalWearsSpec)

/-- 'wheelhouselaw09.JournalNil', WHERE WHAT IT READS IS OF BULK AT MOST 1048576: true; the input reads as it did. -/
def journalNilUptoRow : OpenClaim := { program := "ytppjjdaejhilkaa", sum := "c932d99d115b22844e111058ec9fda00eaea4ef33bff0286414045cb27d34d0b", func := "wheelhouse/wheelhouselaw09.JournalNil", spec := "journalNil", unfollowed := true, recurses := true, apart := false, narrowed := true }
def JournalNilUptoSaid : Prop := journalNilUptoRow.holds Try.pinned (OpenSpec.upto journalNilSpec)

end Rows
end Go.Proofs.Ytppjjdaejhilkaa
