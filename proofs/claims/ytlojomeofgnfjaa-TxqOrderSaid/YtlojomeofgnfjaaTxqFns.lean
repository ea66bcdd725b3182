/-
  The small functions of a queue.
-/
import Derived.Test.YtlojomeofgnfjaaTxqMem
import Derived.Test.YtlojomeofgnfjaaText
import Derived.Deep.QuietTactic
import Derived.BigQuiet

namespace Go.Proofs.Ytlojomeofgnfjaa

namespace Txq
open Go.RowKit Mem Frm
set_option linter.unusedVariables false
set_option linter.unusedSimpArgs false
set_option maxRecDepth 100000

section
variable {W : World} {p : Nat} {N : Nat → Prop} {A : Option Addr} {c : Nat} {fs : List Fv} {room lost : Nat} {sp : Bool}

theorem none_any (h : IsQ W p N A c fs room lost sp) :
    Calls Try.prog 33 #[at_ p] W fun e w' => e = .returned (.bool false) ∧ W = w' := by
  have h1 := h.c1
  have hl' : ((room : Int) == 0) = false := beq_eq_false_iff_ne.2 (by have := h.r1; omega)
  clear h
  go_enter Try.func33, Try.ntmps33
  go_wp2_with fail
  go_ret
  exact ⟨rfl, rfl⟩

theorem none_nil (W : World) :
    Calls Try.prog 33 #[.pointer none] W fun e w' => e = .returned (.bool true) ∧ W = w' := by
  go_enter Try.func33, Try.ntmps33
  go_wp2_with fail
  go_ret
  exact ⟨rfl, rfl⟩

theorem none_zero (W : World) (h1 : W.cell? ⟨p, 1, none⟩ = some (.int .i64 0)) :
    Calls Try.prog 33 #[at_ p] W fun e w' => e = .returned (.bool true) ∧ W = w' := by
  go_enter Try.func33, Try.ntmps33
  go_wp2_with fail
  go_ret
  exact ⟨rfl, rfl⟩

theorem len_any (h : IsQ W p N A c fs room lost sp) :
    Calls Try.prog 14 #[at_ p] W fun e w' => e = .returned (.int .i64 (fs.length : Int)) ∧ W = w' := by
  have h0 := h.c0
  have H1 := Lib.hid (none_any h)
  clear h
  go_enter Try.func14, Try.ntmps14
  go_wp2_with fail
  refine H1.out.mono ?_
  rintro e w' ⟨rfl, rfl⟩
  go_wp2_with fail
  go_ret
  exact ⟨rfl, rfl⟩

theorem lost_any (h : IsQ W p N A c fs room lost sp) :
    Calls Try.prog 31 #[at_ p] W fun e w' => e = .returned (.int .i64 (lost : Int)) ∧ W = w' := by
  have h0 := h.c2
  have H1 := Lib.hid (none_any h)
  clear h
  go_enter Try.func31, Try.ntmps31
  go_wp2_with fail
  refine H1.out.mono ?_
  rintro e w' ⟨rfl, rfl⟩
  go_wp2_with fail
  go_ret
  exact ⟨rfl, rfl⟩

theorem spilt_any (h : IsQ W p N A c fs room lost sp) :
    Calls Try.prog 32 #[at_ p] W fun e w' => e = .returned (.bool sp) ∧ IsQ w' p N A c fs room lost false ∧ Ch p none W w' := by
  have h0 := h.c3
  have hf := h.free 3
  have H1 := Lib.hid (none_any h)
  have HQ := Lib.hid h
  clear h
  go_enter Try.func32, Try.ntmps32
  go_wp2_with fail
  refine H1.out.mono ?_
  rintro e w' ⟨rfl, rfl⟩
  go_wp2_with fail
  go_ret
  exact ⟨rfl, HQ.out.set 3 _ rfl, (Ch.refl _ _ _).set _ _⟩

end

theorem len_nil (W : World) :
    Calls Try.prog 14 #[.pointer none] W fun e w' => e = .returned (.int .i64 0) ∧ W = w' := by
  have H1 := Lib.hid (none_nil W)
  go_enter Try.func14, Try.ntmps14
  go_wp2_with fail
  refine H1.out.mono ?_
  rintro e w' ⟨rfl, rfl⟩
  go_wp2_with fail
  go_ret
  exact ⟨rfl, rfl⟩

theorem lost_nil (W : World) :
    Calls Try.prog 31 #[.pointer none] W fun e w' => e = .returned (.int .i64 0) ∧ W = w' := by
  have H1 := Lib.hid (none_nil W)
  go_enter Try.func31, Try.ntmps31
  go_wp2_with fail
  refine H1.out.mono ?_
  rintro e w' ⟨rfl, rfl⟩
  go_wp2_with fail
  go_ret
  exact ⟨rfl, rfl⟩

theorem spilt_nil (W : World) :
    Calls Try.prog 32 #[.pointer none] W fun e w' => e = .returned (.bool false) ∧ W = w' := by
  have H1 := Lib.hid (none_nil W)
  go_enter Try.func32, Try.ntmps32
  go_wp2_with fail
  refine H1.out.mono ?_
  rintro e w' ⟨rfl, rfl⟩
  go_wp2_with fail
  go_ret
  exact ⟨rfl, rfl⟩

theorem put_nil (v : Value) (id : Int) (r : Bool) (W : World) :
    Calls Try.prog 10 #[.pointer none, frm id r v] W fun e w' => e = .returned (.int .i64 17) ∧ Below W.heap.size W w' := by
  have H1 := Lib.hid (fun W => none_nil W)
  have B := Lib.hid (fun o => (Below.refl W.heap.size W).alloc (Nat.le_refl _) o)
  go_enter Try.func10, Try.ntmps10
  go_wp2_with fail
  refine (H1.out _).mono ?_
  rintro e w' ⟨rfl, rfl⟩
  go_wp2_with fail
  go_ret
  exact ⟨rfl, by first | exact B.out _ | exact Below.refl _ _⟩

theorem put_zero (v : Value) (id : Int) (r : Bool) (p : Nat) (W : World) (h1 : W.cell? ⟨p, 1, none⟩ = some (.int .i64 0)) :
    Calls Try.prog 10 #[at_ p, frm id r v] W fun e w' => e = .returned (.int .i64 17) ∧ Below W.heap.size W w' := by
  have B := Lib.hid (fun o => (Below.refl W.heap.size W).alloc (Nat.le_refl _) o)
  have H1 := Lib.hid (fun o => none_zero (p := p) (W.alloc o) (((B.out o).cell (p := ⟨p, 1, none⟩) (World.block_lt_of_cell? W _ h1)).trans h1))
  have H2 := Lib.hid (none_zero (p := p) W h1)
  go_enter Try.func10, Try.ntmps10
  go_wp2_with fail
  first | refine (H1.out _).mono ?_ | refine H2.out.mono ?_
  rintro e w' ⟨rfl, rfl⟩
  go_wp2_with fail
  go_ret
  exact ⟨rfl, by first | exact B.out _ | exact Below.refl _ _⟩

theorem new_bad (room : Int) (k : room < 1 ∨ 64 < room) (k0 : -9223372036854775808 ≤ room) (k1 : room ≤ 9223372036854775807) (W : World) :
    Calls Try.prog 8 #[.int .i64 room] W fun e w' => e = .returned (.tuple #[.pointer none, .int .i64 1]) ∧ Below W.heap.size W w' := by
  rcases (by omega : room < 1 ∨ (¬ room < 1 ∧ 64 < room)) with h | ⟨h, h'⟩
  all_goals
    go_enter Try.func8, Try.ntmps8
    go_wp2_with fail
    go_ret2
    exact ⟨rfl, Below.refl _ _⟩

theorem new_any (room : Nat) (k1 : 1 ≤ room) (k2 : room ≤ 64) (W : World) (N : Nat → Prop) (np : N W.heap.size) :
    Calls Try.prog 8 #[.int .i64 (room : Int)] W fun e w' => e = .returned (.tuple #[at_ W.heap.size, .int .i64 0]) ∧ IsQ w' W.heap.size N none 0 [] room 0 false ∧ Below W.heap.size W w' := by
  have d1 : decide ((room : Int) < 1) = false := by simp; omega
  have d2 : decide ((64 : Int) < (room : Int)) = false := by simp; omega
  have Q := Lib.hid (show ∀ t, t = QT → IsQ (W.alloc (.cells #[.slice none 0 0, .int .i64 (room : Int), .int .i64 0, .bool false] t)) W.heap.size N none 0 [] room 0 false from fun t ht => by
    subst ht
    exact ⟨heap_alloc_new W _, np, RdG.nil, fun f hf => by simp at hf, by simp, k1, k2, Nat.le_refl _, by simp [maxLen], .inl ⟨rfl, rfl⟩⟩)
  have B := Lib.hid (fun o => (Below.refl W.heap.size W).alloc (Nat.le_refl _) o)
  go_enter Try.func8, Try.ntmps8
  go_wp2_with fail
  go_ret2
  exact ⟨rfl, Q.out _ rfl, B.out _⟩

end Txq

end Go.Proofs.Ytlojomeofgnfjaa
