/-
  What the document's integer functions for package octet do: Low, Sign, half.
-/
import Derived.Test.YtlibolkkklfdoaaDoorProg
import Derived.Test.YtlibolkkklfdoaaDoorOctMath
import Derived.WalkKit
import Derived.WalkSpells
import Derived.WalkLawsBesides
import Derived.Lib.Hide
namespace Go.Proofs.YtlibolkkklfdoaaDoor
open Go.RowKit

set_option maxHeartbeats 400000 in
theorem rlow_no (n b : Int) (w : World) (h : b < 1 ∨ 64 < b) :
    Calls Tryd.prog 44 #[.int .u64 n, .int .i64 b] w fun e w' => e = .returned (.tuple #[.int .u64 0, .int .i64 1]) ∧ w = w' := by
  rcases h with h | h
  all_goals
    go_enter Tryd.func44, Tryd.ntmps44
    go_wp2_with fail
    go_ret2
    exact ⟨rfl, rfl⟩

set_option maxHeartbeats 400000 in
theorem rlow_ok (n b : Int) (w : World) (h1 : 1 ≤ b) (h2 : b ≤ 64) (h3 : 0 ≤ n) (h4 : n ≤ 18446744073709551615) :
    Calls Tryd.prog 44 #[.int .u64 n, .int .i64 b] w fun e w' => e = .returned (.tuple #[.int .u64 (Oct.low n b), .int .i64 0]) ∧ w = w' := by
  have d1 : decide (b < 1) = false := by simp; omega
  have d2 : decide (64 < b) = false := by simp; omega
  go_enter Tryd.func44, Tryd.ntmps44
  go_wp2_with fail
  go_loop [0, 6, 7, 8] (fun a o p i => ∃ k : Nat, (k : Int) ≤ b ∧ i = .int .i64 k ∧ a = .int .u64 (Oct.shr n k) ∧ o = .int .u64 (Oct.lowN n k) ∧ p = .int .u64 (Oct.pw k)) (fun _ _ _ i => (b - intOf i).toNat)
  case atStart => exact ⟨0, by omega, rfl, by rw [Oct.shr_zero], by simp [Oct.lowN, Int.emod_one], rfl⟩
  case round =>
    obtain ⟨k, hk, rfl, rfl, rfl, rfl⟩ := hrel
    have q1 := Oct.shr_bd n k h3 h4
    have q2 := Oct.lowN_bd n k
    have q3 := Oct.pw_bd k
    go_wp2_with fail
    · go_round
      case rel => exact ⟨k + 1, by omega, by go_num, Oct.vi (Oct.shr_succ n k), Oct.vi (Oct.lowN_one n k (by omega) (by assumption)), Oct.vi (Oct.pw_succ k)⟩
      case measure => simp [intOf]; omega
    · go_round
      case rel => exact ⟨k + 1, by omega, by go_num, Oct.vi (Oct.shr_succ n k), Oct.vi (Oct.lowN_nil n k (by assumption)), Oct.vi (Oct.pw_succ k)⟩
      case measure => simp [intOf]; omega
    · go_ret2
      exact ⟨Oct.ret2i (Oct.low_of_lowN n b k (by omega)), rfl⟩

end Go.Proofs.YtlibolkkklfdoaaDoor
