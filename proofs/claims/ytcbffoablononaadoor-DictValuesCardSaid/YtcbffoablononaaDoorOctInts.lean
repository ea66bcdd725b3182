/-
  What the integer functions of package octet do: mask, isBits, isWidth, Low, Sign.
-/
import Derived.Test.YtcbffoablononaaDoorProg
import Derived.Test.YtcbffoablononaaDoorOctMath
import Derived.WalkKit
import Derived.WalkSpells
import Derived.WalkLawsBesides
import Derived.Lib.Hide
namespace Go.Proofs.YtcbffoablononaaDoor
open Go.RowKit

set_option maxHeartbeats 400000 in
theorem isBits_yes (b : Int) (w : World) (h1 : 1 ≤ b) (h2 : b ≤ 64) :
    Calls Tryd.prog 102 #[.int .i64 b] w fun e w' => e = .returned (.bool true) ∧ w = w' := by
  go_enter Tryd.func102, Tryd.ntmps102
  go_wp2
  go_ret
  exact ⟨rfl, rfl⟩

set_option maxHeartbeats 400000 in
theorem isBits_no (b : Int) (w : World) (h : b < 1 ∨ 64 < b) :
    Calls Tryd.prog 102 #[.int .i64 b] w fun e w' => e = .returned (.bool false) ∧ w = w' := by
  have hd : 1 ≤ b → decide (b ≤ 64) = false := fun h1 => by simp; omega
  rcases h with h | h
  case' inr => replace hd := hd (by omega)
  all_goals
    go_enter Tryd.func102, Tryd.ntmps102
    go_wp2
    go_ret
    exact ⟨rfl, rfl⟩

set_option maxHeartbeats 400000 in
theorem isWidth_yes (b : Int) (w : World) (h1 : 1 ≤ b) (h2 : b ≤ 8) :
    Calls Tryd.prog 98 #[.int .i64 b] w fun e w' => e = .returned (.bool true) ∧ w = w' := by
  go_enter Tryd.func98, Tryd.ntmps98
  go_wp2
  go_ret
  exact ⟨rfl, rfl⟩

set_option maxHeartbeats 400000 in
theorem isWidth_no (b : Int) (w : World) (h : b < 1 ∨ 8 < b) :
    Calls Tryd.prog 98 #[.int .i64 b] w fun e w' => e = .returned (.bool false) ∧ w = w' := by
  have hd : 1 ≤ b → decide (b ≤ 8) = false := fun h1 => by simp; omega
  rcases h with h | h
  case' inr => replace hd := hd (by omega)
  all_goals
    go_enter Tryd.func98, Tryd.ntmps98
    go_wp2
    go_ret
    exact ⟨rfl, rfl⟩

set_option maxHeartbeats 400000 in
theorem mask_any (b : Int) (w : World) (h1 : 1 ≤ b) (h2 : b ≤ 64) :
    Calls Tryd.prog 101 #[.int .i64 b] w fun e w' => e = .returned (.int .u64 (2 ^ b.toNat - 1)) ∧ w = w' := by
  go_enter Tryd.func101, Tryd.ntmps101
  go_wp2
  go_ret
  exact ⟨by rw [Oct.mask_eq b h2]; rfl, rfl⟩

set_option maxHeartbeats 400000 in
theorem low_ok (n b : Int) (w : World) (h1 : 1 ≤ b) (h2 : b ≤ 64) (h3 : 0 ≤ n) (h4 : n ≤ 18446744073709551615) :
    Calls Tryd.prog 100 #[.int .u64 n, .int .i64 b] w fun e w' => e = .returned (.tuple #[.int .u64 (Oct.low n b), .int .i64 0]) ∧ w = w' := by
  go_enter Tryd.func100, Tryd.ntmps100
  go_wp2_with fail
  refine (isBits_yes _ _ h1 h2).mono ?_
  rintro e w' ⟨rfl, rfl⟩
  go_wp2_with fail
  refine (mask_any _ _ h1 h2).mono ?_
  rintro e w' ⟨rfl, rfl⟩
  go_wp2_with fail
  go_ret2
  exact ⟨Oct.ret2i (Oct.and_mask n b h3 h4 h2), rfl⟩

set_option maxHeartbeats 400000 in
theorem low_no (n b : Int) (w : World) (h : b < 1 ∨ 64 < b) :
    Calls Tryd.prog 100 #[.int .u64 n, .int .i64 b] w fun e w' => e = .returned (.tuple #[.int .u64 0, .int .i64 1]) ∧ w = w' := by
  go_enter Tryd.func100, Tryd.ntmps100
  go_wp2_with fail
  refine (isBits_no _ _ h).mono ?_
  rintro e w' ⟨rfl, rfl⟩
  go_wp2_with fail
  go_ret2
  exact ⟨rfl, rfl⟩

set_option maxHeartbeats 400000 in
theorem sign_ok (n b : Int) (w : World) (h1 : 1 ≤ b) (h2 : b ≤ 64) (h3 : 0 ≤ n) (h4 : n ≤ 18446744073709551615) :
    Calls Tryd.prog 97 #[.int .u64 n, .int .i64 b] w fun e w' => e = .returned (.tuple #[.int .i64 (Oct.sgn n b), .int .i64 0]) ∧ w = w' := by
  have hl := Oct.low_u64 n b h2
  by_cases hs : 2 * Oct.low n b < 2 ^ b.toNat
  · have ht := Oct.top_no n b h1 hs
    go_enter Tryd.func97, Tryd.ntmps97
    go_wp2_with fail
    refine (low_ok _ _ _ h1 h2 h3 h4).mono ?_
    rintro e w' ⟨rfl, rfl⟩
    go_wp2_with fail
    go_ret2
    exact ⟨Oct.ret2i (Oct.sgn_no n b h2 hs), rfl⟩
  · have ht := Oct.top_yes n b h1 hs
    go_enter Tryd.func97, Tryd.ntmps97
    go_wp2_with fail
    refine (low_ok _ _ _ h1 h2 h3 h4).mono ?_
    rintro e w' ⟨rfl, rfl⟩
    go_wp2_with fail
    refine (mask_any _ _ h1 h2).mono ?_
    rintro e w' ⟨rfl, rfl⟩
    go_wp2_with fail
    go_ret2
    exact ⟨Oct.ret2i (Oct.sgn_yes n b h2 hs), rfl⟩

set_option maxHeartbeats 400000 in
theorem sign_no (n b : Int) (w : World) (h : b < 1 ∨ 64 < b) :
    Calls Tryd.prog 97 #[.int .u64 n, .int .i64 b] w fun e w' => e = .returned (.tuple #[.int .i64 0, .int .i64 1]) ∧ w = w' := by
  go_enter Tryd.func97, Tryd.ntmps97
  go_wp2_with fail
  refine (low_no _ _ _ h).mono ?_
  rintro e w' ⟨rfl, rfl⟩
  go_wp2_with fail
  go_ret2
  exact ⟨rfl, rfl⟩

end Go.Proofs.YtcbffoablononaaDoor
