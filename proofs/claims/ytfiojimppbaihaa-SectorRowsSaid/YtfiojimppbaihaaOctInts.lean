/-
  What the integer functions of package octet do: mask, isBits, isWidth, Low, Sign.
-/
import Derived.Test.YtfiojimppbaihaaProg
import Derived.Test.YtfiojimppbaihaaOctMath
import Derived.WalkKit
import Derived.WalkSpells
import Derived.WalkLawsBesides
import Derived.Lib.Hide
namespace Go.Proofs.Ytfiojimppbaihaa
open Go.RowKit

set_option maxHeartbeats 400000 in
theorem isWidth_yes (b : Int) (w : World) (h1 : 1 ≤ b) (h2 : b ≤ 8) :
    Calls Try.prog 37 #[.int .i64 b] w fun e w' => e = .returned (.bool true) ∧ w = w' := by
  go_enter Try.func37, Try.ntmps37
  go_wp2
  go_ret
  exact ⟨rfl, rfl⟩

set_option maxHeartbeats 400000 in
theorem isWidth_no (b : Int) (w : World) (h : b < 1 ∨ 8 < b) :
    Calls Try.prog 37 #[.int .i64 b] w fun e w' => e = .returned (.bool false) ∧ w = w' := by
  have hd : 1 ≤ b → decide (b ≤ 8) = false := fun h1 => by simp; omega
  rcases h with h | h
  case' inr => replace hd := hd (by omega)
  all_goals
    go_enter Try.func37, Try.ntmps37
    go_wp2
    go_ret
    exact ⟨rfl, rfl⟩

end Go.Proofs.Ytfiojimppbaihaa
