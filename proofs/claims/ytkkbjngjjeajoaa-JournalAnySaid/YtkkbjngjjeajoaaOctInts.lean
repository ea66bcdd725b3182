/-
  What the integer functions of package octet do: mask, isBits, isWidth, Low, Sign.
-/
import Derived.Test.YtkkbjngjjeajoaaProg
import Derived.Test.YtkkbjngjjeajoaaOctMath
import Derived.WalkKit
import Derived.WalkSpells
import Derived.WalkLawsBesides
import Derived.Lib.Hide
namespace Go.Proofs.Ytkkbjngjjeajoaa
open Go.RowKit

set_option maxHeartbeats 400000 in
theorem isBits_yes (b : Int) (w : World) (h1 : 1 ≤ b) (h2 : b ≤ 64) :
    Calls Try.prog 144 #[.int .i64 b] w fun e w' => e = .returned (.bool true) ∧ w = w' := by
  go_enter Try.func144, Try.ntmps144
  go_wp2
  go_ret
  exact ⟨rfl, rfl⟩

set_option maxHeartbeats 400000 in
theorem isBits_no (b : Int) (w : World) (h : b < 1 ∨ 64 < b) :
    Calls Try.prog 144 #[.int .i64 b] w fun e w' => e = .returned (.bool false) ∧ w = w' := by
  have hd : 1 ≤ b → decide (b ≤ 64) = false := fun h1 => by simp; omega
  rcases h with h | h
  case' inr => replace hd := hd (by omega)
  all_goals
    go_enter Try.func144, Try.ntmps144
    go_wp2
    go_ret
    exact ⟨rfl, rfl⟩

set_option maxHeartbeats 400000 in
theorem isWidth_yes (b : Int) (w : World) (h1 : 1 ≤ b) (h2 : b ≤ 8) :
    Calls Try.prog 136 #[.int .i64 b] w fun e w' => e = .returned (.bool true) ∧ w = w' := by
  go_enter Try.func136, Try.ntmps136
  go_wp2
  go_ret
  exact ⟨rfl, rfl⟩

set_option maxHeartbeats 400000 in
theorem isWidth_no (b : Int) (w : World) (h : b < 1 ∨ 8 < b) :
    Calls Try.prog 136 #[.int .i64 b] w fun e w' => e = .returned (.bool false) ∧ w = w' := by
  have hd : 1 ≤ b → decide (b ≤ 8) = false := fun h1 => by simp; omega
  rcases h with h | h
  case' inr => replace hd := hd (by omega)
  all_goals
    go_enter Try.func136, Try.ntmps136
    go_wp2
    go_ret
    exact ⟨rfl, rfl⟩

set_option maxHeartbeats 400000 in
theorem mask_any (b : Int) (w : World) (h1 : 1 ≤ b) (h2 : b ≤ 64) :
    Calls Try.prog 145 #[.int .i64 b] w fun e w' => e = .returned (.int .u64 (2 ^ b.toNat - 1)) ∧ w = w' := by
  go_enter Try.func145, Try.ntmps145
  go_wp2
  go_ret
  exact ⟨by rw [Oct.mask_eq b h2]; rfl, rfl⟩

set_option maxHeartbeats 400000 in
theorem low_ok (n b : Int) (w : World) (h1 : 1 ≤ b) (h2 : b ≤ 64) (h3 : 0 ≤ n) (h4 : n ≤ 18446744073709551615) :
    Calls Try.prog 137 #[.int .u64 n, .int .i64 b] w fun e w' => e = .returned (.tuple #[.int .u64 (Oct.low n b), .int .i64 0]) ∧ w = w' := by
  go_enter Try.func137, Try.ntmps137
  go_wp2_with fail
  refine (isBits_yes _ _ h1 h2).mono ?_
  rintro e w' ⟨rfl, rfl⟩
  go_wp2_with fail
  refine (mask_any _ _ h1 h2).mono ?_
  rintro e w' ⟨rfl, rfl⟩
  go_wp2_with fail
  go_ret2
  exact ⟨Oct.ret2i (Oct.and_mask n b h3 h4 h2), rfl⟩

set_option maxHeartbeats 400000 in
theorem low_no (n b : Int) (w : World) (h : b < 1 ∨ 64 < b) :
    Calls Try.prog 137 #[.int .u64 n, .int .i64 b] w fun e w' => e = .returned (.tuple #[.int .u64 0, .int .i64 1]) ∧ w = w' := by
  go_enter Try.func137, Try.ntmps137
  go_wp2_with fail
  refine (isBits_no _ _ h).mono ?_
  rintro e w' ⟨rfl, rfl⟩
  go_wp2_with fail
  go_ret2
  exact ⟨rfl, rfl⟩

end Go.Proofs.Ytkkbjngjjeajoaa
