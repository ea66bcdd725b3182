/-
  The small functions of canid: at, isId, Split, Join.
-/
import Derived.Test.YtdakogmkpcldbaaDoorCanGlob
import Derived.WalkKit
import Derived.WalkSpells
import Derived.WalkLawsBesides
import Derived.Deep.RegionWith
import Derived.Lib.Hide
namespace Go.Proofs.YtdakogmkpcldbaaDoor
open Go.RowKit
set_option linter.unusedVariables false

theorem isid_any (x : Int) (w : World) : Calls Tryd.prog 20 #[.int .i64 x] w fun e w' => e = .returned (.bool (decide (0 ≤ x ∧ x ≤ 2047))) ∧ w = w' := by
  have HN : Hid (decide (0 ≤ x ∧ x ≤ 2047) = (decide (0 ≤ x) && decide (x ≤ 2047))) := Lib.hid (by simp)
  generalize decide (0 ≤ x ∧ x ≤ 2047) = R at *
  by_cases h : 0 ≤ x
  · have d0 : decide (0 ≤ x) = true := decide_eq_true h
    go_enter Tryd.func20, Tryd.ntmps20
    go_wp2_with fail
    go_ret
    exact ⟨by rw [HN.out, d0]; rfl, rfl⟩
  · have d0 : decide (0 ≤ x) = false := decide_eq_false h
    go_enter Tryd.func20, Tryd.ntmps20
    go_wp2_with fail
    go_ret
    exact ⟨by rw [HN.out, d0]; rfl, rfl⟩
theorem isid_yes {x : Int} (h0 : 0 ≤ x) (h1 : x ≤ 2047) (w : World) : Calls Tryd.prog 20 #[.int .i64 x] w fun e w' => e = .returned (.bool true) ∧ w = w' := by
  have := isid_any x w
  rwa [decide_eq_true ⟨h0, h1⟩] at this
theorem isid_no {x : Int} (h : x < 0 ∨ 2047 < x) (w : World) : Calls Tryd.prog 20 #[.int .i64 x] w fun e w' => e = .returned (.bool false) ∧ w = w' := by
  have := isid_any x w
  rwa [decide_eq_false (by omega)] at this

theorem at_yes {a b c d e x : Int} (h0 : c ≤ x) (h1 : x ≤ d) (w : World) : Calls Tryd.prog 19 #[.agg #[.int .i64 a, .int .i64 b, .int .i64 c, .int .i64 d, .int .i64 e], .int .i64 x] w
    fun e w' => e = .returned (.tuple #[.agg #[.int .i64 a, .int .i64 b, .int .i64 x], .bool true]) ∧ Below w.heap.size w w' := by
  have d0 : decide (x < c) = false := by simp; omega
  have d1 : decide (d < x) = false := by simp; omega
  go_enter Tryd.func19, Tryd.ntmps19
  go_wp2_with fail
  refine bodyPost_ret (v := .tuple #[.agg #[.int .i64 a, .int .i64 b, .int .i64 x], .bool true]) (by simp [results, Tryd.results19, go_sem]) rfl ⟨rfl, ?_⟩
  refine Below.alloc ?_ ?_ _
  · exact (Below.refl _ _).alloc (Nat.le_refl _) _
  · simp
theorem at_no {a b c d e x : Int} (h : x < c ∨ d < x) (w : World) : Calls Tryd.prog 19 #[.agg #[.int .i64 a, .int .i64 b, .int .i64 c, .int .i64 d, .int .i64 e], .int .i64 x] w
    fun e w' => e = .returned (.tuple #[.agg #[.int .i64 0, .int .i64 0, .int .i64 0], .bool false]) ∧ Below w.heap.size w w' := by
  by_cases h0 : x < c
  · have d0 : decide (x < c) = true := by simp; omega
    go_enter Tryd.func19, Tryd.ntmps19
    go_wp2_with fail
    refine bodyPost_ret (v := .tuple #[.agg #[.int .i64 0, .int .i64 0, .int .i64 0], .bool false]) (by simp [results, Tryd.results19, go_sem]) rfl ⟨rfl, ?_⟩
    refine Below.alloc ?_ ?_ _
    · exact (Below.refl _ _).alloc (Nat.le_refl _) _
    · simp
  · have d0 : decide (x < c) = false := by simp; omega
    have d1 : decide (d < x) = true := by simp; omega
    go_enter Tryd.func19, Tryd.ntmps19
    go_wp2_with fail
    refine bodyPost_ret (v := .tuple #[.agg #[.int .i64 0, .int .i64 0, .int .i64 0], .bool false]) (by simp [results, Tryd.results19, go_sem]) rfl ⟨rfl, ?_⟩
    refine Below.alloc ?_ ?_ _
    · exact (Below.refl _ _).alloc (Nat.le_refl _) _
    · simp

theorem split_yes {x : Int} (h0 : 0 ≤ x) (h1 : x ≤ 4294967295) (h : Can.bad x = false) (w : World) : Calls Tryd.prog 15 #[.int .u32 x] w
    fun e w' => e = .returned (.tuple #[.agg #[.bool (Can.wOff x), .bool (Can.wNo x), .int .i64 (x % 2048)], .int .i64 0]) ∧ Below w.heap.size w w' := by
  have q0 := Can.and_bad h0 h1
  rw [h] at q0
  have q1 := Can.and_off h0 h1
  have q2 := Can.and_no h0 h1
  have q3 := Can.and_id h0 h1
  have b0 : 0 ≤ x % 2048 := by omega
  have b1 : x % 2048 < 2048 := by omega
  generalize Can.wOff x = p at *
  generalize Can.wNo x = q at *
  generalize x % 2048 = r at *
  clear h
  go_enter Tryd.func15, Tryd.ntmps15
  go_wp2_with fail
  refine bodyPost_ret (v := .tuple #[.agg #[.bool p, .bool q, .int .i64 r], .int .i64 0]) (by simp [results, Tryd.results15, go_sem]) rfl ⟨rfl, ?_⟩
  exact (Below.refl _ _).alloc (Nat.le_refl _) _
theorem split_no {x : Int} (h0 : 0 ≤ x) (h1 : x ≤ 4294967295) (h : Can.bad x = true) (w : World) : Calls Tryd.prog 15 #[.int .u32 x] w
    fun e w' => e = .returned (.tuple #[.agg #[.bool false, .bool false, .int .i64 0], .int .i64 4]) ∧ Below w.heap.size w w' := by
  have q0 := Can.and_bad h0 h1
  rw [h] at q0
  clear h
  go_enter Tryd.func15, Tryd.ntmps15
  go_wp2_with fail
  refine bodyPost_ret (v := .tuple #[.agg #[.bool false, .bool false, .int .i64 0], .int .i64 4]) (by simp [results, Tryd.results15, go_sem]) rfl ⟨rfl, ?_⟩
  exact (Below.refl _ _).alloc (Nat.le_refl _) _
theorem split_any {x : Int} (h0 : 0 ≤ x) (h1 : x ≤ 4294967295) (w : World) : Calls Tryd.prog 15 #[.int .u32 x] w
    fun e w' => e = .returned (.tuple #[.agg #[.bool (Can.spl x).1.1, .bool (Can.spl x).1.2.1, .int .i64 (Can.spl x).1.2.2], .int .i64 (Can.spl x).2]) ∧ Below w.heap.size w w' := by
  cases h : Can.bad x with
  | true => rw [Can.spl_no h]; exact split_no h0 h1 h w
  | false => rw [Can.spl_yes h]; exact split_yes h0 h1 h w

theorem join_yes (o r : Bool) {x : Int} (h0 : 0 ≤ x) (h1 : x ≤ 2047) (w : World) : Calls Tryd.prog 17 #[.agg #[.bool o, .bool r, .int .i64 x]] w
    fun e w' => e = .returned (.tuple #[.int .u32 (Can.wrd o r x), .int .i64 0]) ∧ Below w.heap.size w w' := by
  have q1 := Can.or_off h0 h1
  have q2 := Can.or_no h0 h1 o
  have K := Lib.hid (fun W => isid_yes h0 h1 W)
  cases o <;> cases r
  · rw [Can.wrd_ff]
    clear q1 q2
    go_enter Tryd.func17, Tryd.ntmps17
    go_wp2_with (go_at_call 20; refine (K.out _).mono ?_; rintro e w' ⟨rfl, rfl⟩)
    refine bodyPost_ret (v := .tuple #[.int .u32 x, .int .i64 0]) (by simp [results, Tryd.results17, go_sem]) rfl ⟨rfl, ?_⟩
    exact (Below.refl _ _).alloc (Nat.le_refl _) _
  · rw [Can.wrd_ff, Can.wrd_ft] at q2
    rw [Can.wrd_ft]
    generalize x + 1073741824 = v at *
    clear q1
    go_enter Tryd.func17, Tryd.ntmps17
    go_wp2_with (go_at_call 20; refine (K.out _).mono ?_; rintro e w' ⟨rfl, rfl⟩)
    refine bodyPost_ret (v := .tuple #[.int .u32 v, .int .i64 0]) (by simp [results, Tryd.results17, go_sem]) rfl ⟨rfl, ?_⟩
    exact (Below.refl _ _).alloc (Nat.le_refl _) _
  · rw [Can.wrd_tf]
    clear q2
    generalize x + 2147483648 = v at *
    go_enter Tryd.func17, Tryd.ntmps17
    go_wp2_with (go_at_call 20; refine (K.out _).mono ?_; rintro e w' ⟨rfl, rfl⟩)
    refine bodyPost_ret (v := .tuple #[.int .u32 v, .int .i64 0]) (by simp [results, Tryd.results17, go_sem]) rfl ⟨rfl, ?_⟩
    exact (Below.refl _ _).alloc (Nat.le_refl _) _
  · rw [Can.wrd_tf, Can.wrd_tt] at q2
    rw [Can.wrd_tt]
    generalize x + 2147483648 + 1073741824 = u at *
    generalize x + 2147483648 = v at *
    go_enter Tryd.func17, Tryd.ntmps17
    go_wp2_with (go_at_call 20; refine (K.out _).mono ?_; rintro e w' ⟨rfl, rfl⟩)
    refine bodyPost_ret (v := .tuple #[.int .u32 u, .int .i64 0]) (by simp [results, Tryd.results17, go_sem]) rfl ⟨rfl, ?_⟩
    exact (Below.refl _ _).alloc (Nat.le_refl _) _
theorem join_no (o r : Bool) {x : Int} (h : x < 0 ∨ 2047 < x) (w : World) : Calls Tryd.prog 17 #[.agg #[.bool o, .bool r, .int .i64 x]] w
    fun e w' => e = .returned (.tuple #[.int .u32 0, .int .i64 9]) ∧ Below w.heap.size w w' := by
  have K := Lib.hid (fun W => isid_no h W)
  clear h
  go_enter Tryd.func17, Tryd.ntmps17
  go_wp2_with (go_at_call 20; refine (K.out _).mono ?_; rintro e w' ⟨rfl, rfl⟩)
  refine bodyPost_ret (v := .tuple #[.int .u32 0, .int .i64 9]) (by simp [results, Tryd.results17, go_sem]) rfl ⟨rfl, ?_⟩
  exact (Below.refl _ _).alloc (Nat.le_refl _) _
theorem join_any (o r : Bool) (x : Int) (w : World) : Calls Tryd.prog 17 #[.agg #[.bool o, .bool r, .int .i64 x]] w
    fun e w' => e = .returned (.tuple #[.int .u32 (Can.jn o r x).1, .int .i64 (Can.jn o r x).2]) ∧ Below w.heap.size w w' := by
  by_cases h : 0 ≤ x ∧ x ≤ 2047
  · rw [Can.jn_yes h.1 h.2]; exact join_yes o r h.1 h.2 w
  · rw [Can.jn_no (by omega)]; exact join_no o r (by omega) w
end Go.Proofs.YtdakogmkpcldbaaDoor
