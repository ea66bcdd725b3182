/-
  What lay, Put and PutInt of package octet do: new bytes, the old ones and the number's bytes behind them, or a refusal.
-/
import Derived.Test.YtcbffoablononaaDoorProg
import Derived.Test.YtcbffoablononaaDoorOctInts
import Derived.Test.YtcbffoablononaaDoorMem
import Derived.WalkKit
import Derived.WalkSpells
import Derived.WalkLawsBesides
namespace Go.Proofs.YtcbffoablononaaDoor
open Go.RowKit Mem
set_option linter.unusedVariables false

theorem info_u8 : (Tryd.prog.info? 5).map (fun i => (i.zero, i.size, i.bytes)) = some (some (.int .u8 0), 1, 1) := by kernel_rfl
theorem size_u8 : (Tryd.prog.info? 5).map (·.size) = some 1 := by kernel_rfl

def pairOk (v : Value) : Value := .tuple #[v, .int .i64 0]

end Go.Proofs.YtcbffoablononaaDoor
