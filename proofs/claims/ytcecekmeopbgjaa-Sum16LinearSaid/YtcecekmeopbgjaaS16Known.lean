/-
  The fixed calls that every statement of layer 3 makes come out as they must.
-/
import Derived.Test.YtcecekmeopbgjaaProg
import Derived.Test.YtcecekmeopbgjaaS16On
import Derived.Lib.SlBytesConst
namespace Go.Proofs.Ytcecekmeopbgjaa
namespace S16
open Go.RowKit Mem
set_option linter.unusedVariables false

theorem known_s : on 0 [49, 50, 51, 52, 53, 54, 55, 56, 57] = 12739 := by decide +kernel
theorem known_a : on 0 [65] = 22757 := by decide +kernel

set_option maxHeartbeats 400000 in
theorem known_any (w : World) : Calls Try.prog 7 #[] w fun e w' => e = .returned (.bool true) ∧ Below w.heap.size w w' := by
  have cv := fun (w : World) (C : Array Value) (n c : Nat) => Lib.run_convert_bytes_const (P := Try.prog) w 23 5 C n c Try.underlying23 Try.underlying5
  go_enter Try.func7, Try.ntmps7
  go_wp2_with fail
  refine (sum_any _ 9 _ [49, 50, 51, 52, 53, 54, 55, 56, 57] _ (Rd.newL w _ _ rfl) rfl (by omega)).mono ?_
  rintro e w1 ⟨rfl, b1⟩
  rw [known_s]
  have B1 : Below w.heap.size w w1 := ((Below.refl _ _).alloc (Nat.le_refl _) _).trans (b1.mono (by simp))
  clear b1
  go_wp2_with fail
  refine (sum_any none 0 0 [] w1 Rd.nil rfl (by omega)).mono ?_
  rintro e w2 ⟨rfl, b2⟩
  rw [on_nil]
  have B2 : Below w.heap.size w w2 := B1.trans (b2.mono B1.size)
  clear b2 B1
  go_wp2_with fail
  refine (right_any _ 1 _ [65] 22757 _ (Rd.newL w2 _ _ rfl) rfl (by omega)).mono ?_
  rintro e w3 ⟨rfl, b3⟩
  rw [known_a]
  have B3 : Below w.heap.size w w3 := (B2.alloc B2.size _).trans (b3.mono (by have := B2.size; simp; omega))
  clear b3 B2
  go_wp2_with fail
  go_ret
  exact ⟨rfl, B3⟩

end S16
end Go.Proofs.Ytcecekmeopbgjaa
