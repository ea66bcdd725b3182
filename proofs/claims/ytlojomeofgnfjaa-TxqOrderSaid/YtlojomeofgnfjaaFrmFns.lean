/-
  What Check, Before and Same of package frame do, and the document's own.
-/
import Derived.Test.YtlojomeofgnfjaaProg
import Derived.Test.YtlojomeofgnfjaaFrmMath
import Derived.Test.YtlojomeofgnfjaaOctLay
namespace Go.Proofs.Ytlojomeofgnfjaa
namespace Frm
open Go.RowKit Mem
set_option linter.unusedVariables false
set_option maxRecDepth 100000

/-- A frame as a value. -/
abbrev frm (id : Int) (r : Bool) (v : Value) : Value := .agg #[.int .i64 id, .bool r, v]

/-- What a way through Check answers. -/
theorem err_of {id : Int} {r : Bool} {n : Nat} (z : Int) (h : (z = 9 ∧ (id < 0 ∨ 2047 < id)) ∨ (¬ (id < 0 ∨ 2047 < id) ∧ ((z = 3 ∧ 8 < n) ∨ (¬ 8 < n ∧ ((z = 4 ∧ r = true ∧ 0 < n) ∨ (z = 0 ∧ ¬ (r = true ∧ 0 < n))))))) :
    Ending.returned (.int .i64 z) = .returned (.int .i64 (err id r n)) := by
  unfold err
  rcases h with ⟨rfl, h⟩ | ⟨h, h2⟩
  · rw [if_pos h]
  · rw [if_neg h]
    rcases h2 with ⟨rfl, h2⟩ | ⟨h2, h3⟩
    · rw [if_pos h2]
    · rw [if_neg h2]
      rcases h3 with ⟨rfl, h3⟩ | ⟨rfl, h3⟩
      · rw [if_pos h3]
      · rw [if_neg h3]

set_option maxHeartbeats 400000 in
theorem check_any (id : Int) (r : Bool) (A : Option Addr) (n c : Nat) (w : World) (k1 : -9223372036854775808 ≤ id) (k2 : id ≤ 9223372036854775807) (hl : n ≤ 9223372036854775807) :
    Calls Try.prog 34 #[frm id r (.slice A n c)] w fun e w' => e = .returned (.int .i64 (err id r n)) ∧ Below w.heap.size w w' := by
  have H := Lib.hid (@err_of id r n)
  have B := Lib.hid (fun o => (Below.refl w.heap.size w).alloc (Nat.le_refl _) o)
  cases r
  all_goals
    go_enter Try.func34, Try.ntmps34
    go_wp2_with fail
    all_goals
      go_ret
      refine ⟨H.out _ ?_, B.out _⟩
      clear H B
      simp at *
      omega

/-- Does a frame go ahead of another? -/
def before (i : Int) (r : Bool) (j : Int) (s : Bool) : Bool := decide (i < j) || (decide (i = j) && (!r && s))
def same (i : Int) (r : Bool) (d : List UInt8) (j : Int) (s : Bool) (e : List UInt8) : Bool := decide (i = j) && (r == s && d == e)

theorem below_two (w : World) (o o' : Obj) : Below w.heap.size w ((w.alloc o).alloc o') := ((Below.refl _ _).alloc (Nat.le_refl _) _).alloc (by simp) _

theorem bef_of {i j : Int} {r s b : Bool} (h : b = before i r j s) : Ending.returned (.bool b) = .returned (.bool (before i r j s)) := by rw [h]

set_option maxHeartbeats 400000 in
theorem before_any (i : Int) (r : Bool) (A : Option Addr) (n c : Nat) (j : Int) (s : Bool) (A' : Option Addr) (n' c' : Nat) (w : World) :
    Calls Try.prog 36 #[frm i r (.slice A n c), frm j s (.slice A' n' c')] w fun e w' => e = .returned (.bool (before i r j s)) ∧ Below w.heap.size w w' := by
  have H := Lib.hid (fun b h => @bef_of i j r s b h)
  have B := Lib.hid (below_two w)
  cases r <;> cases s
  all_goals
    go_enter Try.func36, Try.ntmps36
    go_wp2_with fail
    all_goals
      go_ret
      refine ⟨H.out _ ?_, B.out _ _⟩
      clear H B
      unfold before
      simp at *
      try first | omega | (intros; omega)

set_option maxHeartbeats 400000 in
theorem rbefore_any (i : Int) (r : Bool) (A : Option Addr) (n c : Nat) (j : Int) (s : Bool) (A' : Option Addr) (n' c' : Nat) (w : World) :
    Calls Try.prog 13 #[frm i r (.slice A n c), frm j s (.slice A' n' c')] w fun e w' => e = .returned (.bool (before i r j s)) ∧ Below w.heap.size w w' := by
  have H := Lib.hid (fun b h => @bef_of i j r s b h)
  have B := Lib.hid (below_two w)
  cases r <;> cases s
  all_goals
    go_enter Try.func13, Try.ntmps13
    go_wp2_with fail
    all_goals
      go_ret
      refine ⟨H.out _ ?_, B.out _ _⟩
      clear H B
      unfold before
      simp at *
      try first | omega | (intros; omega)

theorem same_of {i j : Int} {r s b : Bool} {d e : List UInt8} (h : b = same i r d j s e) : Ending.returned (.bool b) = .returned (.bool (same i r d j s e)) := by rw [h]

set_option maxHeartbeats 400000 in
theorem rsame_any (i : Int) (r : Bool) (A : Option Addr) (c : Nat) (d : List UInt8) (j : Int) (s : Bool) (A' : Option Addr) (c' : Nat) (d' : List UInt8) (B B' : Nat) (w : World) (hr : Rd w B A d) (hr' : Rd w B' A' d') (hB : B ≤ w.heap.size) (hB' : B' ≤ w.heap.size) :
    Calls Try.prog 12 #[frm i r (.slice A d.length c), frm j s (.slice A' d'.length c')] w fun e w' => e = .returned (.bool (same i r d j s d')) ∧ Below w.heap.size w w' := by
  have H := Lib.hid (fun b h => @same_of i j r s b d d' h)
  have B2 := Lib.hid (below_two w)
  have s1 := fun o o' => run_str ((hr.mono hB).below (below_two w o o')) d.length c rfl 27 5 9 Try.underlying27 Try.underlying5 Try.underlying9
  have s2 := fun o o' => run_str ((hr'.mono hB').below (below_two w o o')) d'.length c' rfl 27 5 9 Try.underlying27 Try.underlying5 Try.underlying9
  by_cases hij : i = j <;> cases r <;> cases s
  all_goals
    go_enter Try.func12, Try.ntmps12
    go_wp2_with fail
    all_goals
      go_ret
      refine ⟨H.out _ ?_, B2.out _ _⟩
      clear H B2 s1 s2
      unfold same
      simp [hij]
end Frm
end Go.Proofs.Ytlojomeofgnfjaa
