/-
  The document's small functions on types.
-/
import Derived.Test.YtcbffoablononaaDoorTypGlob
import Derived.WalkKit
import Derived.WalkSpells
import Derived.WalkLawsBesides
namespace Go.Proofs.YtcbffoablononaaDoor
open Go.RowKit Mem
set_option linter.unusedVariables false

theorem one_of (t : Int) : (t = 1 ∨ t = 2 ∨ t = 3 ∨ t = 4 ∨ t = 5 ∨ t = 6 ∨ t = 7 ∨ t = 9 ∨ t = 10 ∨ t = 15 ∨ t = 21) ∨ (t ≠ 1 ∧ t ≠ 2 ∧ t ≠ 3 ∧ t ≠ 4 ∧ t ≠ 5 ∧ t ≠ 6 ∧ t ≠ 7 ∧ t ≠ 9 ∧ t ≠ 10 ∧ t ≠ 15 ∧ t ≠ 21) := by omega
theorem none_of {t : Int} (h : t ≠ 1 ∧ t ≠ 2 ∧ t ≠ 3 ∧ t ≠ 4 ∧ t ≠ 5 ∧ t ≠ 6 ∧ t ≠ 7 ∧ t ≠ 9 ∧ t ≠ 10 ∧ t ≠ 15 ∧ t ≠ 21) : Typ.name t = [] ∧ Typ.size t = 0 ∧ Typ.bits t = 0 ∧ Typ.low t = 0 ∧ Typ.high t = 0 := by
  rcases Typ.cases_ t with ⟨n, hn, rfl⟩ | h0
  · have h' : n ≠ 1 ∧ n ≠ 2 ∧ n ≠ 3 ∧ n ≠ 4 ∧ n ≠ 5 ∧ n ≠ 6 ∧ n ≠ 7 ∧ n ≠ 9 ∧ n ≠ 10 ∧ n ≠ 15 ∧ n ≠ 21 := by omega
    rcases (by omega : n = 0 ∨ n = 8 ∨ n = 11 ∨ n = 12 ∨ n = 13 ∨ n = 14 ∨ n = 16 ∨ n = 17 ∨ n = 18 ∨ n = 19 ∨ n = 20) with rfl | rfl | rfl | rfl | rfl | rfl | rfl | rfl | rfl | rfl | rfl <;> exact ⟨rfl, rfl, rfl, rfl, rfl⟩
  · exact Typ.out_all h0
theorem ne_b {t k : Int} (h : t ≠ k) : (t == k) = false := by simpa using h

set_option maxRecDepth 100000 in
set_option maxHeartbeats 2000000 in
theorem rname_any (t : Int) (w : World) :
    Calls Tryd.prog 84 #[.int .i64 t] w fun e w' => e = .returned (.string ⟨(Typ.name t).toArray⟩) ∧ w = w' := by
  rcases one_of t with h | h
  · rcases h with rfl | rfl | rfl | rfl | rfl | rfl | rfl | rfl | rfl | rfl | rfl
    all_goals
      go_enter Tryd.func84, Tryd.ntmps84
      go_wp2_with fail
      go_ret
      exact ⟨rfl, rfl⟩
  · have HN := Lib.hid (none_of h).1
    obtain ⟨h1, h2, h3, h4, h5, h6, h7, h8, h9, h10, h11⟩ := h
    have b1 := ne_b h1
    have b2 := ne_b h2
    have b3 := ne_b h3
    have b4 := ne_b h4
    have b5 := ne_b h5
    have b6 := ne_b h6
    have b7 := ne_b h7
    have b8 := ne_b h8
    have b9 := ne_b h9
    have b10 := ne_b h10
    have b11 := ne_b h11
    clear h1 h2 h3 h4 h5 h6 h7 h8 h9 h10 h11
    go_enter Tryd.func84, Tryd.ntmps84
    go_wp2_with fail
    go_ret
    exact ⟨by rw [HN.out]; rfl, rfl⟩

set_option maxRecDepth 100000 in
set_option maxHeartbeats 2000000 in
theorem rsize_any (t : Int) (w : World) :
    Calls Tryd.prog 93 #[.int .i64 t] w fun e w' => e = .returned (.int .i64 (Typ.size t)) ∧ w = w' := by
  rcases one_of t with h | h
  · rcases h with rfl | rfl | rfl | rfl | rfl | rfl | rfl | rfl | rfl | rfl | rfl
    all_goals
      go_enter Tryd.func93, Tryd.ntmps93
      go_wp2_with fail
      go_ret
      exact ⟨rfl, rfl⟩
  · have HN := Lib.hid (none_of h).2.1
    obtain ⟨h1, h2, h3, h4, h5, h6, h7, h8, h9, h10, h11⟩ := h
    have b1 := ne_b h1
    have b2 := ne_b h2
    have b3 := ne_b h3
    have b4 := ne_b h4
    have b5 := ne_b h5
    have b6 := ne_b h6
    have b7 := ne_b h7
    have b11 := ne_b h11
    clear h1 h2 h3 h4 h5 h6 h7 h8 h9 h10 h11
    go_enter Tryd.func93, Tryd.ntmps93
    go_wp2_with fail
    go_ret
    exact ⟨by rw [HN.out]; rfl, rfl⟩

theorem signed_eq (t : Int) : Typ.signed t = (t == 2 || t == 3 || t == 4 || t == 21) := by
  rcases one_of t with h | h
  · rcases h with rfl | rfl | rfl | rfl | rfl | rfl | rfl | rfl | rfl | rfl | rfl <;> rfl
  · have := (none_of h).2.2.2.1
    obtain ⟨h1, h2, h3, h4, h5, h6, h7, h8, h9, h10, h11⟩ := h
    simp [Typ.signed, this, h2, h3, h4, h11]
set_option maxRecDepth 100000 in
set_option maxHeartbeats 2000000 in
theorem rsigned_any (t : Int) (w : World) :
    Calls Tryd.prog 83 #[.int .i64 t] w fun e w' => e = .returned (.bool (Typ.signed t)) ∧ w = w' := by
  rcases one_of t with h | h
  · rcases h with rfl | rfl | rfl | rfl | rfl | rfl | rfl | rfl | rfl | rfl | rfl
    all_goals
      go_enter Tryd.func83, Tryd.ntmps83
      go_wp2_with fail
      go_ret
      exact ⟨rfl, rfl⟩
  · have HN := Lib.hid (signed_eq t)
    obtain ⟨h1, h2, h3, h4, h5, h6, h7, h8, h9, h10, h11⟩ := h
    have b2 := ne_b h2
    have b3 := ne_b h3
    have b4 := ne_b h4
    have b11 := ne_b h11
    have HF : Hid (Typ.signed t = false) := Lib.hid (by rw [HN.out, b2, b3, b4, b11]; rfl)
    clear h1 h2 h3 h4 h5 h6 h7 h8 h9 h10 h11
    go_enter Tryd.func83, Tryd.ntmps83
    go_wp2_with fail
    go_ret
    exact ⟨by rw [HF.out]; rfl, rfl⟩

theorem bits_eq (t : Int) (h : t ≠ 1) : Typ.bits t = 8 * Typ.size t := by
  rcases one_of t with h' | h'
  · rcases h' with rfl | rfl | rfl | rfl | rfl | rfl | rfl | rfl | rfl | rfl | rfl
    · exact absurd rfl h
    all_goals rfl
  · rw [(none_of h').2.1, (none_of h').2.2.1]; rfl
theorem rbits_any (t : Int) (w : World) :
    Calls Tryd.prog 82 #[.int .i64 t] w fun e w' => e = .returned (.int .i64 (Typ.bits t)) ∧ w = w' := by
  by_cases h : t = 1
  · subst h
    go_enter Tryd.func82, Tryd.ntmps82
    go_wp2_with fail
    go_ret
    exact ⟨rfl, rfl⟩
  · have HB := Lib.hid (bits_eq t h)
    have b1 := ne_b h
    have hs := Typ.bd t
    have h0 := hs.1
    have h8 := hs.2.1
    have HS := Lib.hid (fun w => rsize_any t w)
    clear hs h
    generalize Typ.size t = sz at *
    generalize Typ.bits t = bt at *
    go_enter Tryd.func82, Tryd.ntmps82
    go_wp2_with (go_at_call 93; refine (HS.out _).mono ?_; rintro e w1 ⟨rfl, rfl⟩)
    go_ret
    exact ⟨by rw [HB.out]; rfl, rfl⟩
theorem rknown_any (t : Int) (w : World) :
    Calls Tryd.prog 66 #[.int .i64 t] w fun e w' => e = .returned (.bool (Typ.known t)) ∧ w = w' := by
  have HS := Lib.hid (fun w => rname_any t w)
  have HK : Hid (Typ.known t = decide (Typ.name t ≠ [])) := Lib.hid rfl
  generalize Typ.known t = KN at *
  generalize Typ.name t = nm at *
  go_enter Tryd.func66, Tryd.ntmps66
  go_wp2_with (go_at_call 84; refine (HS.out _).mono ?_; rintro e w1 ⟨rfl, rfl⟩)
  go_ret
  refine ⟨?_, rfl⟩
  rw [HK.out]
  cases nm <;> simp
end Go.Proofs.YtcbffoablononaaDoor
