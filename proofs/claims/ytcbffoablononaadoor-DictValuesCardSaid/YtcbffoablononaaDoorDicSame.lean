/-
  The document's Same, of two entries that are alike.
-/
import Derived.Test.YtcbffoablononaaDoorDicFind
import Derived.Test.YtcbffoablononaaDoorDicMore
namespace Go.Proofs.YtcbffoablononaaDoor
namespace Dic
open Go.RowKit Mem Ent
set_option linter.unusedVariables false
set_option linter.unusedSimpArgs false
set_option maxRecDepth 100000

set_option maxHeartbeats 4000000 in
theorem same_yes (e : Ev) (A B : Option Addr) (c d : Nat) (W : World) (ha : Rd W W.heap.size A e.d) (hb : Rd W W.heap.size B e.d) (hl : e.d.length ≤ 1000) :
    Calls Tryd.prog 24 #[e.go (.slice A e.d.length c), e.go (.slice B e.d.length d)] W fun x w' => x = .returned (.bool true) ∧ Below W.heap.size W w' := by
  have b2 := two_b W (.cells (e.row (.slice A e.d.length c)) 38) (.cells (e.row (.slice B e.d.length d)) 38)
  have B2 := Lib.hid b2
  have R1 : ((W.alloc (.cells (e.row (.slice A e.d.length c)) 38)).alloc (.cells (e.row (.slice B e.d.length d)) 38)).heap[W.heap.size]? = some (.cells (e.row (.slice A e.d.length c)) 38) := by
    rw [Below.heap_alloc _ _ _ (by simp)]
    exact heap_alloc_new W _
  have R2 : ((W.alloc (.cells (e.row (.slice A e.d.length c)) 38)).alloc (.cells (e.row (.slice B e.d.length d)) 38)).heap[W.heap.size + 1]? = some (.cells (e.row (.slice B e.d.length d)) 38) := by
    have := heap_alloc_new (W.alloc (.cells (e.row (.slice A e.d.length c)) 38)) (.cells (e.row (.slice B e.d.length d)) 38)
    simpa using this
  have CA := Lib.hid (fun X (b : Below W.heap.size W X) => run_str (P := Tryd.prog) (ha.below b) e.d.length c rfl 36 5 9 Tryd.underlying36 Tryd.underlying5 Tryd.underlying9)
  have CB := Lib.hid (fun X (b : Below W.heap.size W X) => run_str (P := Tryd.prog) (hb.below b) e.d.length d rfl 36 5 9 Tryd.underlying36 Tryd.underlying5 Tryd.underlying9)
  have cv1 := CA.out _ b2
  have cv2 := CB.out _ b2
  clear R1 R2 ha hb CA CB b2
  go_enter Tryd.func24, Tryd.ntmps24
  go_wp2_with fail
  go_ret
  exact ⟨rfl, B2.out⟩
end Dic
end Go.Proofs.YtcbffoablononaaDoor
