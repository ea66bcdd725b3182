/-
  A journal that is not there, and one that Open did not give.
-/
import Derived.Test.YtppjjdaejhilkaaJouData
namespace Go.Proofs.Ytppjjdaejhilkaa
namespace Jou
open Go.RowKit Mem Fla Rec Sec
set_option linter.unusedVariables false
set_option linter.unusedSimpArgs false
set_option maxRecDepth 100000
/-- v is no journal: nil, or one without a flash. -/
def NoJ (W : World) (v : Value) : Prop := v = .pointer none ∨ ∃ z cs, v = at_ z ∧ W.heap[z]? = some (.cells cs TJ (0, 0)) ∧ cs[1]? = some (.pointer none)
theorem NoJ.below {W W' : World} {v : Value} (h : NoJ W v) {B : Nat} (b : Below B W W') (hB : W.heap.size ≤ B) : NoJ W' v := by
  rcases h with h | ⟨z, cs, e, hz, h1⟩
  · exact .inl h
  · exact .inr ⟨z, cs, e, (b.block z (by have := (Array.getElem?_eq_some_iff.1 hz).1; omega)).trans hz, h1⟩
theorem nonone (v : Value) (w : World) (h : NoJ w v) : Calls Try.prog 32 #[v] w fun e w' => e = .returned (.bool true) ∧ w = w' := by
  rcases h with rfl | ⟨z, cs, rfl, hz, h1⟩
  · go_enter Try.func32, Try.ntmps32
    go_wp2_with fail
    go_ret
    exact ⟨rfl, rfl⟩
  · have c1 : w.cell? ⟨z, 1, none⟩ = some (.pointer none) := by simp [World.cell?, hz, h1]
    go_enter Try.func32, Try.ntmps32
    go_wp2_with fail
    go_ret
    exact ⟨rfl, rfl⟩
theorem noat (v : Value) (w : World) (h : NoJ w v) : Calls Try.prog 26 #[v] w fun e w' => e = .returned (.int .i64 0) ∧ Below w.heap.size w w' := by
  have H := Lib.hid (nonone v w h)
  clear h
  go_enter Try.func26, Try.ntmps26
  go_wp2_with fail
  refine H.out.mono ?_
  rintro e w1 ⟨rfl, rfl⟩
  go_wp2_with fail
  go_ret
  exact ⟨rfl, Below.refl _ _⟩
theorem noappend (v d : Value) (k : Int) (w : World) (h : NoJ w v) : Calls Try.prog 14 #[v, .int .i64 k, d] w fun e w' => e = .returned (.int .i64 17) ∧ Below w.heap.size w w' := by
  have H := Lib.hid (nonone v w h)
  clear h
  go_enter Try.func14, Try.ntmps14
  go_wp2_with fail
  refine H.out.mono ?_
  rintro e w1 ⟨rfl, rfl⟩
  go_wp2_with fail
  go_ret
  exact ⟨rfl, Below.refl _ _⟩
theorem nolast (v : Value) (w : World) (h : NoJ w v) : Calls Try.prog 10 #[v] w fun e w' => e = .returned (.tuple #[rec_ 0 0 (.slice none 0 0), .bool false]) ∧ Below w.heap.size w w' := by
  have hb := below1 w (.cells #[.int .i64 0, .int .u32 0, .slice none 0 0] 32)
  have H := Lib.hid (nonone v _ (h.below hb (Nat.le_refl _)))
  have R := heap_alloc_new w (.cells #[.int .i64 0, .int .u32 0, .slice none 0 0] 32)
  clear h
  go_enter Try.func10, Try.ntmps10
  go_wp2_with fail
  refine H.out.mono ?_
  rintro e w1 ⟨rfl, rfl⟩
  go_wp2_with fail
  refine bodyPost_ret (results_row2 rfl _ _ w.heap.size _ _ _ _ rfl R Try.underlying32 rfl size_rec) rfl ?_
  exact ⟨rfl, hb⟩
end Jou
end Go.Proofs.Ytppjjdaejhilkaa
