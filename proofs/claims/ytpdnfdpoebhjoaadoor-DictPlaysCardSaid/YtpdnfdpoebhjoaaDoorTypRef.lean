/-
  The document's small functions on types.
  The document's limits of a type.
-/
import Derived.Test.YtpdnfdpoebhjoaaDoorTypGlob
import Derived.WalkKit
import Derived.WalkSpells
import Derived.WalkLawsBesides
import Derived.IntWalk
namespace Go.Proofs.YtpdnfdpoebhjoaaDoor
open Go.RowKit Mem
set_option linter.unusedVariables false

theorem one_of (t : Int) : (t = 1 ∨ t = 2 ∨ t = 3 ∨ t = 4 ∨ t = 5 ∨ t = 6 ∨ t = 7 ∨ t = 9 ∨ t = 10 ∨ t = 15 ∨ t = 21) ∨ (t ≠ 1 ∧ t ≠ 2 ∧ t ≠ 3 ∧ t ≠ 4 ∧ t ≠ 5 ∧ t ≠ 6 ∧ t ≠ 7 ∧ t ≠ 9 ∧ t ≠ 10 ∧ t ≠ 15 ∧ t ≠ 21) := by omega
theorem none_of {t : Int} (h : t ≠ 1 ∧ t ≠ 2 ∧ t ≠ 3 ∧ t ≠ 4 ∧ t ≠ 5 ∧ t ≠ 6 ∧ t ≠ 7 ∧ t ≠ 9 ∧ t ≠ 10 ∧ t ≠ 15 ∧ t ≠ 21) : Typ.name t = [] ∧ Typ.size t = 0 ∧ Typ.bits t = 0 ∧ Typ.low t = 0 ∧ Typ.high t = 0 := by
  rcases Typ.cases_ t with ⟨n, hn, rfl⟩ | h0
  · have h' : n ≠ 1 ∧ n ≠ 2 ∧ n ≠ 3 ∧ n ≠ 4 ∧ n ≠ 5 ∧ n ≠ 6 ∧ n ≠ 7 ∧ n ≠ 9 ∧ n ≠ 10 ∧ n ≠ 15 ∧ n ≠ 21 := by omega
    rcases (by omega : n = 0 ∨ n = 8 ∨ n = 11 ∨ n = 12 ∨ n = 13 ∨ n = 14 ∨ n = 16 ∨ n = 17 ∨ n = 18 ∨ n = 19 ∨ n = 20) with rfl | rfl | rfl | rfl | rfl | rfl | rfl | rfl | rfl | rfl | rfl <;> exact ⟨rfl, rfl, rfl, rfl, rfl⟩
  · exact Typ.out_all h0
theorem ne_b {t k : Int} (h : t ≠ k) : (t == k) = false := by simpa using h

set_option maxRecDepth 100000 in
set_option maxHeartbeats 2000000 in
theorem rname_any (t : Int) (w : World) :
    Calls Tryd.prog 76 #[.int .i64 t] w fun e w' => e = .returned (.string ⟨(Typ.name t).toArray⟩) ∧ w = w' := by
  rcases one_of t with h | h
  · rcases h with rfl | rfl | rfl | rfl | rfl | rfl | rfl | rfl | rfl | rfl | rfl
    all_goals
      go_enter Tryd.func76, Tryd.ntmps76
      go_wp2_with fail
      go_ret
      exact ⟨rfl, rfl⟩
  · have HN := Lib.hid (none_of h).1
    obtain ⟨h1, h2, h3, h4, h5, h6, h7, h8, h9, h10, h11⟩ := h
    have b1 := ne_b h1
    have b2 := ne_b h2
    have b3 := ne_b h3
    have b4 := ne_b h4
    have b5 := ne_b h5
    have b6 := ne_b h6
    have b7 := ne_b h7
    have b8 := ne_b h8
    have b9 := ne_b h9
    have b10 := ne_b h10
    have b11 := ne_b h11
    clear h1 h2 h3 h4 h5 h6 h7 h8 h9 h10 h11
    go_enter Tryd.func76, Tryd.ntmps76
    go_wp2_with fail
    go_ret
    exact ⟨by rw [HN.out]; rfl, rfl⟩

set_option maxRecDepth 100000 in
set_option maxHeartbeats 2000000 in
theorem rsize_any (t : Int) (w : World) :
    Calls Tryd.prog 84 #[.int .i64 t] w fun e w' => e = .returned (.int .i64 (Typ.size t)) ∧ w = w' := by
  rcases one_of t with h | h
  · rcases h with rfl | rfl | rfl | rfl | rfl | rfl | rfl | rfl | rfl | rfl | rfl
    all_goals
      go_enter Tryd.func84, Tryd.ntmps84
      go_wp2_with fail
      go_ret
      exact ⟨rfl, rfl⟩
  · have HN := Lib.hid (none_of h).2.1
    obtain ⟨h1, h2, h3, h4, h5, h6, h7, h8, h9, h10, h11⟩ := h
    have b1 := ne_b h1
    have b2 := ne_b h2
    have b3 := ne_b h3
    have b4 := ne_b h4
    have b5 := ne_b h5
    have b6 := ne_b h6
    have b7 := ne_b h7
    have b11 := ne_b h11
    clear h1 h2 h3 h4 h5 h6 h7 h8 h9 h10 h11
    go_enter Tryd.func84, Tryd.ntmps84
    go_wp2_with fail
    go_ret
    exact ⟨by rw [HN.out]; rfl, rfl⟩

theorem signed_eq (t : Int) : Typ.signed t = (t == 2 || t == 3 || t == 4 || t == 21) := by
  rcases one_of t with h | h
  · rcases h with rfl | rfl | rfl | rfl | rfl | rfl | rfl | rfl | rfl | rfl | rfl <;> rfl
  · have := (none_of h).2.2.2.1
    obtain ⟨h1, h2, h3, h4, h5, h6, h7, h8, h9, h10, h11⟩ := h
    simp [Typ.signed, this, h2, h3, h4, h11]
set_option maxRecDepth 100000 in
set_option maxHeartbeats 2000000 in
theorem rsigned_any (t : Int) (w : World) :
    Calls Tryd.prog 75 #[.int .i64 t] w fun e w' => e = .returned (.bool (Typ.signed t)) ∧ w = w' := by
  rcases one_of t with h | h
  · rcases h with rfl | rfl | rfl | rfl | rfl | rfl | rfl | rfl | rfl | rfl | rfl
    all_goals
      go_enter Tryd.func75, Tryd.ntmps75
      go_wp2_with fail
      go_ret
      exact ⟨rfl, rfl⟩
  · have HN := Lib.hid (signed_eq t)
    obtain ⟨h1, h2, h3, h4, h5, h6, h7, h8, h9, h10, h11⟩ := h
    have b2 := ne_b h2
    have b3 := ne_b h3
    have b4 := ne_b h4
    have b11 := ne_b h11
    have HF : Hid (Typ.signed t = false) := Lib.hid (by rw [HN.out, b2, b3, b4, b11]; rfl)
    clear h1 h2 h3 h4 h5 h6 h7 h8 h9 h10 h11
    go_enter Tryd.func75, Tryd.ntmps75
    go_wp2_with fail
    go_ret
    exact ⟨by rw [HF.out]; rfl, rfl⟩

theorem bits_eq (t : Int) (h : t ≠ 1) : Typ.bits t = 8 * Typ.size t := by
  rcases one_of t with h' | h'
  · rcases h' with rfl | rfl | rfl | rfl | rfl | rfl | rfl | rfl | rfl | rfl | rfl
    · exact absurd rfl h
    all_goals rfl
  · rw [(none_of h').2.1, (none_of h').2.2.1]; rfl
theorem rbits_any (t : Int) (w : World) :
    Calls Tryd.prog 74 #[.int .i64 t] w fun e w' => e = .returned (.int .i64 (Typ.bits t)) ∧ w = w' := by
  by_cases h : t = 1
  · subst h
    go_enter Tryd.func74, Tryd.ntmps74
    go_wp2_with fail
    go_ret
    exact ⟨rfl, rfl⟩
  · have HB := Lib.hid (bits_eq t h)
    have b1 := ne_b h
    have hs := Typ.bd t
    have h0 := hs.1
    have h8 := hs.2.1
    have HS := Lib.hid (fun w => rsize_any t w)
    clear hs h
    generalize Typ.size t = sz at *
    generalize Typ.bits t = bt at *
    go_enter Tryd.func74, Tryd.ntmps74
    go_wp2_with (go_at_call 84; refine (HS.out _).mono ?_; rintro e w1 ⟨rfl, rfl⟩)
    go_ret
    exact ⟨by rw [HB.out]; rfl, rfl⟩
theorem rknown_any (t : Int) (w : World) :
    Calls Tryd.prog 54 #[.int .i64 t] w fun e w' => e = .returned (.bool (Typ.known t)) ∧ w = w' := by
  have HS := Lib.hid (fun w => rname_any t w)
  have HK : Hid (Typ.known t = decide (Typ.name t ≠ [])) := Lib.hid rfl
  generalize Typ.known t = KN at *
  generalize Typ.name t = nm at *
  go_enter Tryd.func54, Tryd.ntmps54
  go_wp2_with (go_at_call 76; refine (HS.out _).mono ?_; rintro e w1 ⟨rfl, rfl⟩)
  go_ret
  refine ⟨?_, rfl⟩
  rw [HK.out]
  cases nm <;> simp
end Go.Proofs.YtpdnfdpoebhjoaaDoor

namespace Go.Proofs.YtpdnfdpoebhjoaaDoor
open Go.RowKit Mem
set_option linter.unusedVariables false

theorem lim_facts (t : Int) (h : Typ.isNum t = true) : ∃ n : Nat, n ≤ 63 ∧ (if Typ.signed t = true then Typ.bits t - 1 else Typ.bits t) = (n : Int) ∧ Typ.high t = ((2 ^ n - 1 : Nat) : Int) ∧ (Typ.signed t = true → Typ.low t = -Typ.high t - 1) ∧ (Typ.signed t = false → Typ.low t = 0) ∧ 1 ≤ Typ.bits t := by
  rcases one_of t with h' | h'
  · rcases h' with rfl | rfl | rfl | rfl | rfl | rfl | rfl | rfl | rfl | rfl | rfl
    · exact ⟨1, by decide, by decide, by decide, by decide, by decide, by decide⟩
    · exact ⟨7, by decide, by decide, by decide, by decide, by decide, by decide⟩
    · exact ⟨15, by decide, by decide, by decide, by decide, by decide, by decide⟩
    · exact ⟨31, by decide, by decide, by decide, by decide, by decide, by decide⟩
    · exact ⟨8, by decide, by decide, by decide, by decide, by decide, by decide⟩
    · exact ⟨16, by decide, by decide, by decide, by decide, by decide, by decide⟩
    · exact ⟨32, by decide, by decide, by decide, by decide, by decide, by decide⟩
    · exact absurd h (by decide)
    · exact absurd h (by decide)
    · exact absurd h (by decide)
    · exact ⟨63, by decide, by decide, by decide, by decide, by decide, by decide⟩
  · simp [Typ.isNum, (none_of h').2.2.1] at h
theorem pow_bd (k : Nat) (hk : k < 63) : 0 ≤ ((2 ^ k - 1 : Nat) : Int) ∧ ((2 ^ k - 1 : Nat) : Int) ≤ 4611686018427387903 := by
  refine ⟨by omega, ?_⟩
  have : 2 ^ k ≤ 2 ^ 62 := Nat.pow_le_pow_right (by omega) (by omega)
  have : (2 : Nat) ^ 62 = 4611686018427387904 := by decide
  omega
theorem pow_next (k : Nat) : 2 * ((2 ^ k - 1 : Nat) : Int) + 1 = ((2 ^ (k + 1) - 1 : Nat) : Int) := by
  have h1 : 1 ≤ 2 ^ k := Nat.one_le_two_pow
  have h2 : 2 ^ (k + 1) = 2 * 2 ^ k := by rw [Nat.pow_succ]; omega
  omega

set_option maxRecDepth 100000 in
set_option maxHeartbeats 2000000 in
theorem rlimits_any (t : Int) (w : World) :
    Calls Tryd.prog 52 #[.int .i64 t] w fun e w' => e = .returned (.tuple #[.int .i64 (Typ.low t), .int .i64 (Typ.high t), .bool (Typ.isNum t)]) ∧ w = w' := by
  have HB := Lib.hid (fun w => rbits_any t w)
  have HS := Lib.hid (fun w => rsigned_any t w)
  cases hn : Typ.isNum t with
  | false =>
    obtain ⟨e1, e2, e3, e4, e5⟩ := Typ.not_num t hn
    rw [e3, e4]
    rw [e1] at HB
    clear e1 e2 e3 e4 e5 hn
    go_enter Tryd.func52, Tryd.ntmps52
    go_wp2_with (go_at_call 74; refine (HB.out _).mono ?_; rintro e w1 ⟨rfl, rfl⟩)
    go_ret3
    exact ⟨rfl, rfl⟩
  | true =>
    obtain ⟨n, n63, hbn, hh, hl1, hl0, hb1⟩ := lim_facts t hn
    have hb0 : (Typ.bits t == 0) = false := by simp; omega
    have hbd := (Typ.bd t).2.2.2.1
    have hP := pow_next
    clear hn
    have HH := Lib.hid hh
    clear hh
    cases hs : Typ.signed t with
    | true =>
      rw [hs] at HS hbn hl1
      have hl := hl1 rfl
      rw [if_pos rfl] at hbn
      have HL := Lib.hid hl
      clear hl0 hl1 hs hl
      generalize Typ.low t = lo at *
      generalize Typ.high t = hi at *
      generalize Typ.bits t = bt at *
      have hbn' : bt = (n : Int) + 1 := by omega
      subst hbn'
      clear hbn
      have HPP := Lib.hid hP
      clear hP
      go_enter Tryd.func52, Tryd.ntmps52
      go_wp2_with (first | (go_at_call 74; refine (HB.out _).mono ?_; rintro e w1 ⟨rfl, rfl⟩) | (go_at_call 75; refine (HS.out _).mono ?_; rintro e w1 ⟨rfl, rfl⟩))
      go_loop [6, 7] (fun h i => ∃ k : Nat, k ≤ n ∧ i = .int .i64 (k : Int) ∧ h = .int .i64 ((2 ^ k - 1 : Nat) : Int)) (fun _ i => n - (intOf i).toNat)
      case atStart => exact ⟨0, by omega, rfl, rfl⟩
      case round =>
        obtain ⟨k, hk, rfl, rfl⟩ := hrel
        by_cases hlt : k < n
        · obtain ⟨p0, p1⟩ := pow_bd k (by omega)
          have HN := Lib.hid (HPP.out k)
          generalize ((2 ^ k - 1 : Nat) : Int) = P at *
          go_wp2_with fail
          go_round
          case rel => exact ⟨k + 1, by omega, by go_num, by rw [HN.out]⟩
          case measure => simp [intOf]; omega
        · obtain rfl : k = n := by omega
          have hmax : 0 ≤ ((2 ^ k - 1 : Nat) : Int) ∧ ((2 ^ k - 1 : Nat) : Int) ≤ 9223372036854775807 := by
            refine ⟨by omega, ?_⟩
            have : 2 ^ k ≤ 2 ^ 63 := Nat.pow_le_pow_right (by omega) n63
            have : (2 : Nat) ^ 63 = 9223372036854775808 := by decide
            omega
          obtain ⟨p0, p1⟩ := hmax
          generalize ((2 ^ k - 1 : Nat) : Int) = P at *
          go_wp2_with (go_at_call 75; refine (HS.out _).mono ?_; rintro e w1 ⟨rfl, rfl⟩)
          go_ret3
          exact ⟨by rw [HL.out, HH.out]; rfl, rfl⟩
    | false =>
      rw [hs] at HS hbn hl0
      have hl := hl0 rfl
      rw [if_neg (by decide)] at hbn
      have HL := Lib.hid hl
      clear hl0 hl1 hs hl
      generalize Typ.low t = lo at *
      generalize Typ.high t = hi at *
      generalize Typ.bits t = bt at *
      subst hbn
      have HPP := Lib.hid hP
      clear hP
      go_enter Tryd.func52, Tryd.ntmps52
      go_wp2_with (first | (go_at_call 74; refine (HB.out _).mono ?_; rintro e w1 ⟨rfl, rfl⟩) | (go_at_call 75; refine (HS.out _).mono ?_; rintro e w1 ⟨rfl, rfl⟩))
      go_loop [6, 7] (fun h i => ∃ k : Nat, k ≤ n ∧ i = .int .i64 (k : Int) ∧ h = .int .i64 ((2 ^ k - 1 : Nat) : Int)) (fun _ i => n - (intOf i).toNat)
      case atStart => exact ⟨0, by omega, rfl, rfl⟩
      case round =>
        obtain ⟨k, hk, rfl, rfl⟩ := hrel
        by_cases hlt : k < n
        · obtain ⟨p0, p1⟩ := pow_bd k (by omega)
          have HN := Lib.hid (HPP.out k)
          generalize ((2 ^ k - 1 : Nat) : Int) = P at *
          go_wp2_with fail
          go_round
          case rel => exact ⟨k + 1, by omega, by go_num, by rw [HN.out]⟩
          case measure => simp [intOf]; omega
        · obtain rfl : k = n := by omega
          generalize ((2 ^ k - 1 : Nat) : Int) = P at *
          go_wp2_with (go_at_call 75; refine (HS.out _).mono ?_; rintro e w1 ⟨rfl, rfl⟩)
          go_ret3
          exact ⟨by rw [HL.out, HH.out]; rfl, rfl⟩
end Go.Proofs.YtpdnfdpoebhjoaaDoor
