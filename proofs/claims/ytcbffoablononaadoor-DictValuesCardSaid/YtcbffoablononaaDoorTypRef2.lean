/-
  The document's limits of a type.
-/
import Derived.Test.YtcbffoablononaaDoorTypRef
import Derived.IntWalk
namespace Go.Proofs.YtcbffoablononaaDoor
open Go.RowKit Mem
set_option linter.unusedVariables false

theorem lim_facts (t : Int) (h : Typ.isNum t = true) : ∃ n : Nat, n ≤ 63 ∧ (if Typ.signed t = true then Typ.bits t - 1 else Typ.bits t) = (n : Int) ∧ Typ.high t = ((2 ^ n - 1 : Nat) : Int) ∧ (Typ.signed t = true → Typ.low t = -Typ.high t - 1) ∧ (Typ.signed t = false → Typ.low t = 0) ∧ 1 ≤ Typ.bits t := by
  rcases one_of t with h' | h'
  · rcases h' with rfl | rfl | rfl | rfl | rfl | rfl | rfl | rfl | rfl | rfl | rfl
    · exact ⟨1, by decide, by decide, by decide, by decide, by decide, by decide⟩
    · exact ⟨7, by decide, by decide, by decide, by decide, by decide, by decide⟩
    · exact ⟨15, by decide, by decide, by decide, by decide, by decide, by decide⟩
    · exact ⟨31, by decide, by decide, by decide, by decide, by decide, by decide⟩
    · exact ⟨8, by decide, by decide, by decide, by decide, by decide, by decide⟩
    · exact ⟨16, by decide, by decide, by decide, by decide, by decide, by decide⟩
    · exact ⟨32, by decide, by decide, by decide, by decide, by decide, by decide⟩
    · exact absurd h (by decide)
    · exact absurd h (by decide)
    · exact absurd h (by decide)
    · exact ⟨63, by decide, by decide, by decide, by decide, by decide, by decide⟩
  · simp [Typ.isNum, (none_of h').2.2.1] at h
theorem pow_bd (k : Nat) (hk : k < 63) : 0 ≤ ((2 ^ k - 1 : Nat) : Int) ∧ ((2 ^ k - 1 : Nat) : Int) ≤ 4611686018427387903 := by
  refine ⟨by omega, ?_⟩
  have : 2 ^ k ≤ 2 ^ 62 := Nat.pow_le_pow_right (by omega) (by omega)
  have : (2 : Nat) ^ 62 = 4611686018427387904 := by decide
  omega
theorem pow_next (k : Nat) : 2 * ((2 ^ k - 1 : Nat) : Int) + 1 = ((2 ^ (k + 1) - 1 : Nat) : Int) := by
  have h1 : 1 ≤ 2 ^ k := Nat.one_le_two_pow
  have h2 : 2 ^ (k + 1) = 2 * 2 ^ k := by rw [Nat.pow_succ]; omega
  omega

set_option maxRecDepth 100000 in
set_option maxHeartbeats 2000000 in
theorem rlimits_any (t : Int) (w : World) :
    Calls Tryd.prog 64 #[.int .i64 t] w fun e w' => e = .returned (.tuple #[.int .i64 (Typ.low t), .int .i64 (Typ.high t), .bool (Typ.isNum t)]) ∧ w = w' := by
  have HB := Lib.hid (fun w => rbits_any t w)
  have HS := Lib.hid (fun w => rsigned_any t w)
  cases hn : Typ.isNum t with
  | false =>
    obtain ⟨e1, e2, e3, e4, e5⟩ := Typ.not_num t hn
    rw [e3, e4]
    rw [e1] at HB
    clear e1 e2 e3 e4 e5 hn
    go_enter Tryd.func64, Tryd.ntmps64
    go_wp2_with (go_at_call 82; refine (HB.out _).mono ?_; rintro e w1 ⟨rfl, rfl⟩)
    go_ret3
    exact ⟨rfl, rfl⟩
  | true =>
    obtain ⟨n, n63, hbn, hh, hl1, hl0, hb1⟩ := lim_facts t hn
    have hb0 : (Typ.bits t == 0) = false := by simp; omega
    have hbd := (Typ.bd t).2.2.2.1
    have hP := pow_next
    clear hn
    have HH := Lib.hid hh
    clear hh
    cases hs : Typ.signed t with
    | true =>
      rw [hs] at HS hbn hl1
      have hl := hl1 rfl
      rw [if_pos rfl] at hbn
      have HL := Lib.hid hl
      clear hl0 hl1 hs hl
      generalize Typ.low t = lo at *
      generalize Typ.high t = hi at *
      generalize Typ.bits t = bt at *
      have hbn' : bt = (n : Int) + 1 := by omega
      subst hbn'
      clear hbn
      have HPP := Lib.hid hP
      clear hP
      go_enter Tryd.func64, Tryd.ntmps64
      go_wp2_with (first | (go_at_call 82; refine (HB.out _).mono ?_; rintro e w1 ⟨rfl, rfl⟩) | (go_at_call 83; refine (HS.out _).mono ?_; rintro e w1 ⟨rfl, rfl⟩))
      go_loop [6, 7] (fun h i => ∃ k : Nat, k ≤ n ∧ i = .int .i64 (k : Int) ∧ h = .int .i64 ((2 ^ k - 1 : Nat) : Int)) (fun _ i => n - (intOf i).toNat)
      case atStart => exact ⟨0, by omega, rfl, rfl⟩
      case round =>
        obtain ⟨k, hk, rfl, rfl⟩ := hrel
        by_cases hlt : k < n
        · obtain ⟨p0, p1⟩ := pow_bd k (by omega)
          have HN := Lib.hid (HPP.out k)
          generalize ((2 ^ k - 1 : Nat) : Int) = P at *
          go_wp2_with fail
          go_round
          case rel => exact ⟨k + 1, by omega, by go_num, by rw [HN.out]⟩
          case measure => simp [intOf]; omega
        · obtain rfl : k = n := by omega
          have hmax : 0 ≤ ((2 ^ k - 1 : Nat) : Int) ∧ ((2 ^ k - 1 : Nat) : Int) ≤ 9223372036854775807 := by
            refine ⟨by omega, ?_⟩
            have : 2 ^ k ≤ 2 ^ 63 := Nat.pow_le_pow_right (by omega) n63
            have : (2 : Nat) ^ 63 = 9223372036854775808 := by decide
            omega
          obtain ⟨p0, p1⟩ := hmax
          generalize ((2 ^ k - 1 : Nat) : Int) = P at *
          go_wp2_with (go_at_call 83; refine (HS.out _).mono ?_; rintro e w1 ⟨rfl, rfl⟩)
          go_ret3
          exact ⟨by rw [HL.out, HH.out]; rfl, rfl⟩
    | false =>
      rw [hs] at HS hbn hl0
      have hl := hl0 rfl
      rw [if_neg (by decide)] at hbn
      have HL := Lib.hid hl
      clear hl0 hl1 hs hl
      generalize Typ.low t = lo at *
      generalize Typ.high t = hi at *
      generalize Typ.bits t = bt at *
      subst hbn
      have HPP := Lib.hid hP
      clear hP
      go_enter Tryd.func64, Tryd.ntmps64
      go_wp2_with (first | (go_at_call 82; refine (HB.out _).mono ?_; rintro e w1 ⟨rfl, rfl⟩) | (go_at_call 83; refine (HS.out _).mono ?_; rintro e w1 ⟨rfl, rfl⟩))
      go_loop [6, 7] (fun h i => ∃ k : Nat, k ≤ n ∧ i = .int .i64 (k : Int) ∧ h = .int .i64 ((2 ^ k - 1 : Nat) : Int)) (fun _ i => n - (intOf i).toNat)
      case atStart => exact ⟨0, by omega, rfl, rfl⟩
      case round =>
        obtain ⟨k, hk, rfl, rfl⟩ := hrel
        by_cases hlt : k < n
        · obtain ⟨p0, p1⟩ := pow_bd k (by omega)
          have HN := Lib.hid (HPP.out k)
          generalize ((2 ^ k - 1 : Nat) : Int) = P at *
          go_wp2_with fail
          go_round
          case rel => exact ⟨k + 1, by omega, by go_num, by rw [HN.out]⟩
          case measure => simp [intOf]; omega
        · obtain rfl : k = n := by omega
          generalize ((2 ^ k - 1 : Nat) : Int) = P at *
          go_wp2_with (go_at_call 83; refine (HS.out _).mono ?_; rintro e w1 ⟨rfl, rfl⟩)
          go_ret3
          exact ⟨by rw [HL.out, HH.out]; rfl, rfl⟩
end Go.Proofs.YtcbffoablononaaDoor
